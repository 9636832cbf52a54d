/-
  What the document's own answers Leaves, Has, Useful, Split and Same of layer 8 come to. Conditions: the numbers fit their kinds.
-/
import Derived.Test.YtomhccendbnamaaDoorZA3
import Derived.Test.YtomhccendbnamaaDoorZA6
import Derived.Deep.RegionHeld3
namespace Go.Proofs.YtomhccendbnamaaDoor
open Go.RowKit
end Go.Proofs.YtomhccendbnamaaDoor
namespace Go.Proofs.YtomhccendbnamaaDoor
open Go.RowKit
/-- two spans have a leaf together -/
def M.two (s t : Int × Int) : Bool := decide (s.1 ≤ t.2) && decide (t.1 ≤ s.2)
end Go.Proofs.YtomhccendbnamaaDoor
