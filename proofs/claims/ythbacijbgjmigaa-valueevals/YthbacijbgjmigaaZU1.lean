/-
  What the program's mayBe comes to at every input. No condition.
-/
import Derived.Test.YthbacijbgjmigaaRows
import Derived.Test.YthbacijbgjmigaaZQM
import Derived.Test.YthbacijbgjmigaaZT8
import Derived.MakeChecks
namespace Go.Proofs.Ythbacijbgjmigaa
open Go.RowKit
set_option maxRecDepth 100000 in
theorem ahead_any (k i : Int) (w : World) (B : Nat) (h : w.cell? ⟨B, 0, none⟩ = some (.int .i64 i)) :
    Calls Try.prog 63 #[.int .i64 k, .pointer (some ⟨B, 0, none⟩)] w fun e w' => e = .returned (.bool (M.ahd k i)) ∧ w' = w := by
  unfold M.ahd
  by_cases c1 : 0 ≤ k <;> by_cases c2 : k < i <;> (go_enter Try.func63, Try.ntmps63; go_wp2; go_ret; exact ⟨by simp [c1, c2], rfl⟩)
theorem ahead_eq {k i : Int} {r : Bool} (hr : M.ahd k i = r) {w : World} {B : Nat} (h : w.cell? ⟨B, 0, none⟩ = some (.int .i64 i)) :
    Calls Try.prog 63 #[.int .i64 k, .pointer (some ⟨B, 0, none⟩)] w fun e w' => e = .returned (.bool r) ∧ w' = w := by subst hr; exact ahead_any k i w B h
theorem box_cell (w : World) (o : Obj) (i : Int) : ((w.alloc o).alloc (.cells #[.int .i64 i] 3)).cell? ⟨w.heap.size + 1, 0, none⟩ = some (.int .i64 i) := by
  have h := heap_alloc_new (w.alloc o) (.cells #[.int .i64 i] 3)
  rw [show (w.alloc o).heap.size = w.heap.size + 1 by simp] at h
  unfold World.cell?
  rw [h]
  rfl
set_option maxRecDepth 100000 in
set_option maxHeartbeats 4000000 in
theorem mayBe_any (t : M.Tm) (i : Int) (w : World) :
    Calls Try.prog 53 #[tmV t, .int .i64 i] w fun e w' => e = .returned (.bool (M.mayB t i)) ∧ Below w.heap.size w w' := by
  obtain ⟨k, a, b⟩ := t
  unfold tmV
  dsimp only
  have HC := hidq (fun o => box_cell w o i)
  have T1 := hidq trivial
  by_cases h1 : k = 1
  · rw [M.mayB_1 h1]
    subst h1
    dsimp only
    by_cases c1 : 0 ≤ a <;> by_cases c2 : a ≤ 1048576 <;> by_cases c3 : b = 0 <;> (first | (exfalso; omega) | (go_enter Try.func53, Try.ntmps53; go_wp2; go_ret; exact ⟨by simp [c1, c2, c3], below_one (below_one (Below.refl _ _))⟩))
  · by_cases h2 : k = 2 ∨ k = 3 ∨ k = 4
    · rw [M.mayB_2 h2]
      obtain ⟨r1, H1⟩ : ∃ r, Hid (M.ahd a i = r) := ⟨_, rfl⟩
      dsimp only
      rw [H1.out]
      rcases h2 with rfl | rfl | rfl <;> cases r1 <;> by_cases c3 : b = 0 <;> (go_enter Try.func53, Try.ntmps53; go_wp2_with (first | (go_at_call 63; clear T1; refine (ahead_eq H1.out (HC.out _)).mono ?_; rintro r w1 ⟨rfl, hw1⟩; subst w1)); go_ret; exact ⟨by simp [c3], below_one (below_one (Below.refl _ _))⟩)
    · by_cases h5 : k = 5
      · rw [M.mayB_5 h5]
        subst h5
        obtain ⟨r1, H1⟩ : ∃ r, Hid (M.ahd a i = r) := ⟨_, rfl⟩
        obtain ⟨r2, H2⟩ : ∃ r, Hid (M.ahd b i = r) := ⟨_, rfl⟩
        dsimp only
        rw [H1.out, H2.out]
        cases r1 <;> cases r2 <;> (go_enter Try.func53, Try.ntmps53; go_wp2_with (first | (go_at_call 63; clear T1; refine (ahead_eq H1.out (HC.out _)).mono ?_; rintro r w1 ⟨rfl, hw1⟩; subst w1) | (go_at_call 63; refine (ahead_eq H2.out (HC.out _)).mono ?_; rintro r w1 ⟨rfl, hw1⟩; subst w1)); go_ret; exact ⟨rfl, below_one (below_one (Below.refl _ _))⟩)
      · obtain ⟨h2, h3, h4⟩ : ¬ k = 2 ∧ ¬ k = 3 ∧ ¬ k = 4 := ⟨fun h => by omega, fun h => by omega, fun h => by omega⟩
        rw [M.mayB_0 h1 h2 h3 h4 h5]
        go_enter Try.func53, Try.ntmps53
        go_wp2
        go_ret
        exact ⟨rfl, below_one (below_one (Below.refl _ _))⟩
theorem mayBe_eq {t : M.Tm} {i : Int} {r : Bool} (h : M.mayB t i = r) (w : World) :
    Calls Try.prog 53 #[.agg #[.int .i64 t.1, .int .i64 t.2.1, .int .i64 t.2.2], .int .i64 i] w fun e w' => e = .returned (.bool r) ∧ Below w.heap.size w w' := by subst h; exact mayBe_any t i w
end Go.Proofs.Ythbacijbgjmigaa
