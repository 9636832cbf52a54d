/-
  The law ValueStands: its walk. Conditions: the slices hold terms and blocks; whole numbers are such.
-/
import Derived.Test.YtljaahheofikpaaZE10
import Derived.Test.YtljaahheofikpaaZE6
import Derived.Test.YtljaahheofikpaaZNZ
namespace Go.Proofs.Ytljaahheofikpaa
open Go.RowKit
theorem tbox (W : World) (i : Int) : Bx9 (W.alloc (.cells #[.bool true, .bool false, .int .u64 0, .int .u64 0, .int .u64 0, .int .u64 0, .int .u64 0, .int .u64 0, .int .i64 i] 29)) W.heap.size (M.ofT i) := Bx9.new W (M.ofT i)
theorem Bx9.cellsT {W : World} {B : Nat} {i : Int} (h : Bx9 W B (M.ofT i)) : W.cell? ⟨B, 0, none⟩ = some (.bool true) ∧ W.cell? ⟨B, 1, none⟩ = some (.bool false) ∧ W.cell? ⟨B, 2, none⟩ = some (.int .u64 0) ∧ W.cell? ⟨B, 3, none⟩ = some (.int .u64 0) ∧ W.cell? ⟨B, 4, none⟩ = some (.int .u64 0) ∧ W.cell? ⟨B, 5, none⟩ = some (.int .u64 0) ∧ W.cell? ⟨B, 6, none⟩ = some (.int .u64 0) ∧ W.cell? ⟨B, 7, none⟩ = some (.int .u64 0) ∧ W.cell? ⟨B, 8, none⟩ = some (.int .i64 i) := h.cells
theorem ofT_lit (i : Int) : ((.agg #[.bool (M.ofT i).1, .bool (M.ofT i).2.1, .int .u64 (M.nu (M.ofT i).2.2.1.1), .int .u64 (M.nu (M.ofT i).2.2.1.2), .int .u64 (M.nu (M.ofT i).2.2.2.1.1.1), .int .u64 (M.nu (M.ofT i).2.2.2.1.1.2), .int .u64 (M.nu (M.ofT i).2.2.2.1.2.1), .int .u64 (M.nu (M.ofT i).2.2.2.1.2.2), .int .i64 (M.ofT i).2.2.2.2]) : Value) = .agg #[.bool true, .bool false, .int .u64 0, .int .u64 0, .int .u64 0, .int .u64 0, .int .u64 0, .int .u64 0, .int .i64 i] := rfl
theorem M.step_T (d : Nat → M.Val) (T : List M.Blk) (t : M.Tm) : (M.stepE d T t).2.2.2.2 = 0 := by
  unfold M.stepE
  by_cases h1 : t.1 = 1
  · rw [if_pos h1]; rfl
  · rw [if_neg h1]
    by_cases h5 : t.1 = 5
    · rw [if_pos h5]; rfl
    · rw [if_neg h5]; rfl
theorem M.ev_T (A : List M.Tm) (T : List M.Blk) (j : Nat) : (M.ev A T j).2.2.2.2 = 0 := by
  show ((M.evT A T (j + 1))[j]?.getD M.zV).2.2.2.2 = 0
  rw [M.evT, List.getElem?_append_right (by rw [M.evT_length]; omega), M.evT_length]
  simp only [Nat.sub_self, List.getElem?_cons_zero, Option.getD_some]
  exact M.step_T _ _ _
theorem evalV_fit (A : List M.Tm) (i : Int) (T : List M.Blk) : M.fitI (M.evalV A i T).2.2.2.2 := by
  unfold M.evalV
  by_cases h : M.evalE A i T.length = 0
  · rw [if_pos h, M.ev_T]; exact fit_lit (by decide) (by decide)
  · rw [if_neg h]; exact fit_lit (by decide) (by decide)
end Go.Proofs.Ytljaahheofikpaa
