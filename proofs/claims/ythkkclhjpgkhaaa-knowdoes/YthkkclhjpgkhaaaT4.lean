/-
  What the document's own Make comes to at every input. Conditions: the slice holds terms, the term's numbers fit.
-/
import Derived.Test.YthkkclhjpgkhaaaT3
namespace Go.Proofs.Ythkkclhjpgkhaaa
open Go.RowKit
theorem Ts.one (W : World) (t : M.Tm) (h : M.fitT t) : Ts (W.alloc (.cells #[.int .i64 t.1, .int .i64 t.2.1, .int .i64 t.2.2] 41)) (.slice (some ⟨W.heap.size, 0, none⟩) 1 1) [t] := by
  refine ⟨_, _, rfl, by simp, by unfold maxLen; omega, fun x hx => by rw [List.mem_singleton] at hx; subst hx; exact h, fun _ => ⟨W.heap.size, 0, rfl, by simp, fun j hj => ?_⟩⟩
  obtain ⟨c0, c1, c2⟩ := (Bx3.new W t).cells
  have hj3 : j < 3 := hj
  match j, hj3 with
  | 0, _ => exact c0
  | 1, _ => exact c1
  | 2, _ => exact c2
theorem M.findE_cases (A : List M.Tm) (t : M.Tm) : (M.findE A t = 1 ∧ M.makeE A t = 1 ∧ M.makeL A t = [] ∧ M.makeV A t = 0) ∨
    (M.findE A t = 0 ∧ M.makeE A t = 0 ∧ M.makeL A t = A ∧ M.makeV A t = M.findV A t ∧ A.length ≤ 65536) ∨
    (M.findE A t = 4 ∧ A.length = 65536 ∧ M.makeE A t = 6 ∧ M.makeL A t = [] ∧ M.makeV A t = 0) ∨
    (M.findE A t = 4 ∧ A.length < 65536 ∧ M.makeE A t = 0 ∧ M.makeL A t = A ++ [t] ∧ M.makeV A t = A.length) := by
  by_cases h : M.Ok A ∧ M.mayB t A.length = true
  · by_cases hp : M.plc t A = none
    · have e : M.findE A t = 4 := by unfold M.findE; rw [if_pos h, if_pos hp]
      have hl := h.1.1
      by_cases h6 : A.length = 65536
      · have e2 : M.makeE A t = 6 := by unfold M.makeE; rw [if_pos e, if_pos h6]
        exact .inr (.inr (.inl ⟨e, h6, e2, by unfold M.makeL; rw [if_neg (by omega), if_neg (by omega)], by unfold M.makeV; rw [if_neg (by omega), if_neg (by omega)]⟩))
      · have e2 : M.makeE A t = 0 := by unfold M.makeE; rw [if_pos e, if_neg h6]
        exact .inr (.inr (.inr ⟨e, by omega, e2, by unfold M.makeL; rw [if_neg (by omega), if_pos e2], by unfold M.makeV; rw [if_neg (by omega), if_pos e2]⟩))
    · have e : M.findE A t = 0 := by unfold M.findE; rw [if_pos h, if_neg hp]
      exact .inr (.inl ⟨e, by unfold M.makeE; rw [if_neg (by omega), e], by unfold M.makeL; rw [if_pos e], by unfold M.makeV M.findV; rw [if_pos e, if_pos e], h.1.1⟩)
  · have e : M.findE A t = 1 := by unfold M.findE; rw [if_neg h]
    have e2 : M.makeE A t = 1 := by unfold M.makeE; rw [if_neg (by omega), e]
    exact .inl ⟨e, e2, by unfold M.makeL; rw [if_neg (by omega), if_neg (by omega)], by unfold M.makeV; rw [if_neg (by omega), if_neg (by omega)]⟩
theorem below_grownq {W w' : World} {row : Option Nat} (hg : W.grownBy w' row) (hr : row = none) : Below W.heap.size W w' := (Below.refl _ W).grown hg (Nat.le_refl _) (fun k hk => by rw [hr] at hk; cases hk)
end Go.Proofs.Ythkkclhjpgkhaaa
