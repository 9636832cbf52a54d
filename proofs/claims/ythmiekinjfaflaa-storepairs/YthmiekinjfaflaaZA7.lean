/-
  What the document's own answers Leaves, Has, Useful, Split and Same of layer 8 come to. Conditions: the numbers fit their kinds.
-/
import Derived.Test.YthmiekinjfaflaaZA3
import Derived.Test.YthmiekinjfaflaaZA6
import Derived.Deep.RegionHeld3
namespace Go.Proofs.Ythmiekinjfaflaa
open Go.RowKit
end Go.Proofs.Ythmiekinjfaflaa
namespace Go.Proofs.Ythmiekinjfaflaa
open Go.RowKit
/-- two spans have a leaf together -/
def M.two (s t : Int × Int) : Bool := decide (s.1 ≤ t.2) && decide (t.1 ≤ s.2)
end Go.Proofs.Ythmiekinjfaflaa
