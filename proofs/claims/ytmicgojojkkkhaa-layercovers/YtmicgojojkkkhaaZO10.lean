/-
  What the document's own Down answers at every input. Conditions: the slice holds numbers that fit.
-/
import Derived.Test.YtmicgojojkkkhaaZO7
import Derived.Test.YtmicgojojkkkhaaZON
import Derived.Test.YtmicgojojkkkhaaZR1
namespace Go.Proofs.Ytmicgojojkkkhaa
open Go.RowKit
theorem M.all_take {p : Int → Bool} {B : List Int} {q : Nat} (hq : q < B.length) : (B.take (q + 1)).all p = ((B.take q).all p && p (B[q]?.getD 0)) := by
  rw [take_getD q hq, List.all_append]; simp
end Go.Proofs.Ytmicgojojkkkhaa
