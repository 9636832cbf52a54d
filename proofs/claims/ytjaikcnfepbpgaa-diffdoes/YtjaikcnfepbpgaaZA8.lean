/-
  What the document's own answer Touch of layer 8 comes to. Conditions: the numbers fit their kinds.
-/
import Derived.Test.YtjaikcnfepbpgaaZA3
import Derived.Test.YtjaikcnfepbpgaaZA7
namespace Go.Proofs.Ytjaikcnfepbpgaa
open Go.RowKit
/-- two spans have a leaf together -/
def M.two (s t : Int × Int) : Bool := decide (s.1 ≤ t.2) && decide (t.1 ≤ s.2)
end Go.Proofs.Ytjaikcnfepbpgaa
