/-
  The law's own example, by the program. No condition.
-/
import Derived.Test.YthmiieiajfghnaaZG2
import Derived.Test.YthmiieiajfghnaaZO6
namespace Go.Proofs.Ythmiieiajfghnaa
open Go.RowKit
theorem M.live9a : M.thV 2 [1] = [3, 4] := by decide +kernel
theorem M.live9b : M.setE 2 [1] = 0 := by decide +kernel
theorem us_two (w : World) (x y : Int) (e : TypeId) (hx : 0 ≤ x ∧ x ≤ 18446744073709551615) (hy : 0 ≤ y ∧ y ≤ 18446744073709551615) : Us (w.alloc (.cells #[.int .u64 x, .int .u64 y] e)) (.slice (some ⟨w.heap.size, 0, none⟩) 2 2) [x, y] :=
  ⟨_, 2, rfl, by simp, by simp [maxLen], by simp; omega, fun _ => ⟨w.heap.size, 0, rfl, by simp, fun j hj => by
    have h2 : j < 2 := by simpa using hj
    rw [cell_of_row _ _ _ _ _ _ (heap_alloc_new w _), Nat.zero_add]
    match j, h2 with
    | 0, _ => rfl
    | 1, _ => rfl⟩⟩
set_option maxRecDepth 100000 in
set_option maxHeartbeats 1000000 in
theorem live9_any (w : World) :
    Calls Try.prog 9 #[] w fun e w' => e = .returned (.bool true) ∧ Below w.heap.size w w' := by
  obtain ⟨X, hX⟩ : ∃ X : List Int, [3, 4] = X := ⟨_, rfl⟩
  have LA := M.live9a
  rw [hX] at LA
  have LB := M.live9b
  have HH := hidq (fun W v (u : Us W v [1]) => stHang_any 2 [1] v W u)
  rw [LA, LB] at HH
  have HX := hidq hX
  clear LA LB hX
  go_enter Try.func9, Try.ntmps9
  go_wp2_with (first | (go_at_call 18; refine (HH.out _ _ (Us.one _ _ _ (by omega) (by omega))).mono ?_; rintro e w1 ⟨v1, rfl, u1, hb1⟩; have U1 := hidq u1; have B1 := hidq (show Below w.heap.size w w1 from below_trans (below_one (Below.refl _ _)) hb1); clear u1 hb1) | (go_at_call 20; refine (same_yes X _ _ _ (U1.out.alloc _) (by rw [← HX.out]; exact us_two _ _ _ _ (by omega) (by omega))).mono ?_; rintro e w2 ⟨rfl, hb2⟩; have B2 := hidq (below_trans (below_one B1.out) hb2); clear hb2))
  go_ret
  exact ⟨rfl, B2.out⟩
end Go.Proofs.Ythmiieiajfghnaa
