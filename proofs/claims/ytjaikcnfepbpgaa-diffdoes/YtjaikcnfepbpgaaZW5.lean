/-
  What node.Path answers at every input. Conditions: the numbers fit their kinds.
-/
import Derived.Test.YtjaikcnfepbpgaaZBel
import Derived.Test.YtjaikcnfepbpgaaZM3
import Derived.Test.YtjaikcnfepbpgaaZW2
namespace Go.Proofs.Ytjaikcnfepbpgaa
open Go.RowKit
set_option maxRecDepth 100000 in
theorem Try.infoInt : (Try.prog.info? 3).map (fun i => (i.zero, i.size, i.bytes)) = some (some (.int .i64 0), 1, 8) := by kernel_rfl
/-- the cells of a list of ints -/
abbrev ints (l : List Int) : List Value := l.map (Value.int .i64)
/-- the row behind k rounds -/
abbrev half (l : List Int) (k : Nat) : List Value := ints (l.take k ++ List.replicate (l.length - k) 0)
theorem half_set (l : List Int) (k : Nat) (h : k < l.length) : (half l k).set k (.int .i64 l[k]) = half l (k + 1) := by
  unfold half ints
  rw [← List.map_set]
  congr 1
  rw [List.set_append, if_neg (by simp; omega)]
  simp only [List.length_take]
  rw [Nat.min_eq_left (by omega), Nat.sub_self, show l.length - k = (l.length - (k + 1)) + 1 by omega, List.replicate_succ, List.set_cons_zero,
    List.take_succ_eq_append_getElem h, List.append_assoc]
  rfl
end Go.Proofs.Ytjaikcnfepbpgaa
