/-
  What the document's own Within comes to at every input. Condition: the slice holds terms.
-/
import Derived.Test.YthkkclhjpgkhaaaT9
namespace Go.Proofs.Ythkkclhjpgkhaaa
open Go.RowKit
theorem own_lowq {w : World} {b b' : Nat} {e : TypeId} {size : Nat} {v : Value} {n : Nat} {xs : List Value} (h : w.ownsRow b e size v n xs) (hb : b' ≤ b) : w.ownsRow b' e size v n xs := by
  refine ⟨h.1, ?_⟩
  rcases h.2 with hn | ⟨g, cap, cur, h1, h2, rest⟩
  · exact .inl hn
  · exact .inr ⟨g, cap, cur, h1, Nat.le_trans hb h2, rest⟩
theorem Try.infoBoolq : (Try.prog.info? 4).map (fun i => (i.zero, i.size, i.bytes)) = some (some (.bool false), 1, 1) := by kernel_rfl
theorem Is.one (W : World) (x : Int) (h : M.fitI x) : Is (W.alloc (.cells #[.int .i64 x] 3)) (.slice (some ⟨W.heap.size, 0, none⟩) 1 1) [x] :=
  Sl.of_own (own_lit1 W 0 _ rfl (Nat.zero_le _) x) (fun y hy => by rw [List.mem_singleton] at hy; subst hy; exact h)
theorem M.row_top {A : List M.Tm} (hA : M.Ok A) {m : Nat} (hm : m < A.length) (n : Nat) : M.rowB (fun j => false || decide (j = m)) n = M.rowB (M.rkB A m (m + 1)) n := by
  refine M.rowB_congr fun j _ => ?_
  rw [Bool.eq_iff_iff, M.rkB_iff hA hm (by omega), M.Rk.top hA hm]
  simp
end Go.Proofs.Ythkkclhjpgkhaaa
