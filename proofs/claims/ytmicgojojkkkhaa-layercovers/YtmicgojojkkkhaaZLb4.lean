/-
  What the document answers, at every input: whether there is such a height and scheme, and whether a subset may be of a scheme. Conditions: the numbers fit their kind.
-/
import Derived.Test.YtmicgojojkkkhaaZNZ
import Derived.Test.YtmicgojojkkkhaaZTR
namespace Go.Proofs.Ytmicgojojkkkhaa
open Go.RowKit
end Go.Proofs.Ytmicgojojkkkhaa
