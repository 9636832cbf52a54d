/-
  What the document's own may, place and Same come to at every input. Conditions: the slices hold terms.
-/
import Derived.Test.YthbacijbgjmigaaZQ2
import Derived.Stop.RegionWithIn
namespace Go.Proofs.Ythbacijbgjmigaa
open Go.RowKit
theorem M.mayB_1 {t : M.Tm} {i : Int} (h : t.1 = 1) : M.mayB t i = ((decide (0 ≤ t.2.1) && decide (t.2.1 ≤ 1048576)) && decide (t.2.2 = 0)) := by unfold M.mayB; rw [if_pos h]
theorem M.mayB_2 {t : M.Tm} {i : Int} (h : t.1 = 2 ∨ t.1 = 3 ∨ t.1 = 4) : M.mayB t i = (M.ahd t.2.1 i && decide (t.2.2 = 0)) := by unfold M.mayB; rw [if_neg (by omega), if_pos h]
theorem M.mayB_5 {t : M.Tm} {i : Int} (h : t.1 = 5) : M.mayB t i = (M.ahd t.2.1 i && M.ahd t.2.2 i) := by unfold M.mayB; rw [if_neg (by omega), if_neg (by omega), if_pos h]
theorem M.mayB_0 {t : M.Tm} {i : Int} (h1 : ¬ t.1 = 1) (h2 : ¬ t.1 = 2) (h3 : ¬ t.1 = 3) (h4 : ¬ t.1 = 4) (h5 : ¬ t.1 = 5) : M.mayB t i = false := by unfold M.mayB; rw [if_neg h1, if_neg (by omega), if_neg h5]
set_option maxRecDepth 100000 in
set_option maxHeartbeats 4000000 in
theorem rmay_any (t : M.Tm) (i : Int) (w : World) :
    Calls Try.prog 56 #[tmV t, .int .i64 i] w fun e w' => e = .returned (.bool (M.mayB t i)) ∧ Below w.heap.size w w' := by
  obtain ⟨k, a, b⟩ := t
  unfold tmV
  dsimp only
  by_cases h1 : k = 1
  · rw [M.mayB_1 h1]
    subst h1
    dsimp only
    by_cases c1 : 0 ≤ a <;> by_cases c2 : a ≤ 1048576 <;> by_cases c3 : b = 0 <;> (first | (exfalso; omega) | (go_enter Try.func56, Try.ntmps56; go_wp2; go_ret; exact ⟨by simp [c1, c2, c3], below_one (Below.refl _ _)⟩))
  · by_cases h2 : k = 2 ∨ k = 3 ∨ k = 4
    · rw [M.mayB_2 h2]
      rcases h2 with rfl | rfl | rfl <;> dsimp only [M.ahd] <;> by_cases c1 : 0 ≤ a <;> by_cases c2 : a < i <;> by_cases c3 : b = 0 <;> (first | (exfalso; omega) | (go_enter Try.func56, Try.ntmps56; go_wp2; go_ret; exact ⟨by simp [c1, c2, c3], below_one (Below.refl _ _)⟩))
    · by_cases h5 : k = 5
      · rw [M.mayB_5 h5]
        subst h5
        dsimp only [M.ahd]
        by_cases c1 : 0 ≤ a <;> by_cases c2 : a < i <;> by_cases c3 : 0 ≤ b <;> by_cases c4 : b < i <;> (first | (exfalso; omega) | (go_enter Try.func56, Try.ntmps56; go_wp2; go_ret; exact ⟨by simp [c1, c2, c3, c4], below_one (Below.refl _ _)⟩))
      · obtain ⟨h2, h3, h4⟩ : ¬ k = 2 ∧ ¬ k = 3 ∧ ¬ k = 4 := ⟨fun h => by omega, fun h => by omega, fun h => by omega⟩
        rw [M.mayB_0 h1 h2 h3 h4 h5]
        go_enter Try.func56, Try.ntmps56
        go_wp2
        go_ret
        exact ⟨rfl, below_one (Below.refl _ _)⟩
end Go.Proofs.Ythbacijbgjmigaa
