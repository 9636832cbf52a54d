/-
  What the document's own answers power, May, Check, Leaf, Child and Other of layer 1 come to. Conditions: each theorem's own premises.
-/
import Derived.Test.YthmiieiajfghnaaZW5
namespace Go.Proofs.Ythmiieiajfghnaa
open Go.RowKit
theorem M.p2_33' {h : Int} (hh : h ≤ 33) : M.p2 h ≤ 8589934592 := by
  have := M.p2_mono hh
  rw [M.p2_33] at this; exact this
set_option maxHeartbeats 400000 in
theorem power_any (K : Int) (w : World) (h0 : 0 ≤ K) (h1 : K ≤ 33) :
    Calls Try.prog 59 #[.int .i64 K] w fun e w' => e = .returned (.int .u64 (M.p2 K)) ∧ w' = w := by
  obtain ⟨n, rfl⟩ := Int.eq_ofNat_of_zero_le h0
  go_enter Try.func59, Try.ntmps59
  go_wp2
  go_loop [3, 5] (fun t i => ∃ k : Nat, k ≤ n ∧ i = .int .i64 k ∧ t = .int .u64 (M.p2 k)) (fun _ i => n - (intOf i).toNat)
  case atStart => exact ⟨0, by omega, rfl, by rw [show ((0 : Nat) : Int) = 0 from rfl, M.p2_zero]⟩
  case round =>
    obtain ⟨k, hk, rfl, rfl⟩ := hrel
    have hs := M.p2_succ (k : Int) (by omega)
    have hp := M.p2_pos (k : Int)
    have hb := M.p2_33' (show (k : Int) ≤ 33 by omega)
    by_cases hlt : k < n
    · have HS : Hid (M.p2 ((k + 1 : Nat) : Int) = 2 * M.p2 (k : Int)) := by show _ = _; rw [← hs]; rfl
      clear hs
      go_wp2
      go_round
      case rel => exact ⟨k + 1, by omega, by go_num, by rw [HS.out]⟩
      case measure => simp [intOf]; omega
    · obtain rfl : k = n := by omega
      clear hs
      go_wp2
      go_ret
      exact ⟨rfl, rfl⟩
set_option maxHeartbeats 400000 in
theorem may_any (h n : Int) (w : World) (h0 : 0 ≤ n) (h1 : n ≤ 18446744073709551615) :
    Calls Try.prog 42 #[.int .i64 h, .int .u64 n] w fun e w' => e = .returned (.bool (M.okB h n)) ∧ w' = w := by
  by_cases g1 : 1 ≤ h
  · by_cases g2 : h ≤ 32
    · by_cases g3 : 1 ≤ n
      · have hs := M.p2_succ h (by omega)
        have HK : Hid (M.okB h n = decide (n < M.p2 (h + 1))) := by
          show _ = _
          unfold M.okB; rw [hs]; simp [g1, g2, g3]
        clear hs
        go_enter Try.func42, Try.ntmps42
        go_wp2_with (first | (go_at_call 59; refine (power_any _ _ (by omega) (by omega)).mono ?_; rintro e w' ⟨rfl, hw⟩; subst w'))
        go_ret
        rw [HK.out]; exact ⟨rfl, rfl⟩
      · have HK : Hid (M.okB h n = false) := by show _ = _; unfold M.okB; rw [decide_eq_false (by omega)]
        go_enter Try.func42, Try.ntmps42
        go_wp2_with (first | (go_at_call 59; refine (power_any _ _ (by omega) (by omega)).mono ?_; rintro e w' ⟨rfl, hw⟩; subst w'))
        go_ret
        rw [HK.out]; exact ⟨rfl, rfl⟩
    · have HK : Hid (M.okB h n = false) := by show _ = _; unfold M.okB; rw [decide_eq_false (by omega)]
      go_enter Try.func42, Try.ntmps42
      go_wp2_with (first | (go_at_call 59; refine (power_any _ _ (by omega) (by omega)).mono ?_; rintro e w' ⟨rfl, hw⟩; subst w'))
      go_ret
      rw [HK.out]; exact ⟨rfl, rfl⟩
  · have HK : Hid (M.okB h n = false) := by show _ = _; unfold M.okB; rw [decide_eq_false (by omega)]
    go_enter Try.func42, Try.ntmps42
    go_wp2_with (first | (go_at_call 59; refine (power_any _ _ (by omega) (by omega)).mono ?_; rintro e w' ⟨rfl, hw⟩; subst w'))
    go_ret
    rw [HK.out]; exact ⟨rfl, rfl⟩
set_option maxHeartbeats 400000 in
theorem rcheck_any (h n : Int) (w : World) (h0 : 0 ≤ n) (h1 : n ≤ 18446744073709551615) :
    Calls Try.prog 64 #[.int .i64 h, .int .u64 n] w fun e w' => e = .returned (.int .i64 (M.eChk h n)) ∧ w' = w := by
  cases hk : M.okB h n
  · have E : M.eChk h n = 1 := by unfold M.eChk; rw [hk]; rfl
    go_enter Try.func64, Try.ntmps64
    go_wp2_with (first | (go_at_call 42; refine (may_any _ _ _ (by omega) (by omega)).mono ?_; rintro e w' ⟨rfl, hw⟩; subst w'))
    go_ret
    rw [E]; exact ⟨rfl, rfl⟩
  · have E : M.eChk h n = 0 := by unfold M.eChk; rw [hk]; rfl
    go_enter Try.func64, Try.ntmps64
    go_wp2_with (first | (go_at_call 42; refine (may_any _ _ _ (by omega) (by omega)).mono ?_; rintro e w' ⟨rfl, hw⟩; subst w'))
    go_ret
    rw [E]; exact ⟨rfl, rfl⟩
set_option maxHeartbeats 400000 in
theorem rleaf_any (h i : Int) (w : World) (h0 : 0 ≤ i) (h1 : i ≤ 18446744073709551615) :
    Calls Try.prog 37 #[.int .i64 h, .int .u64 i] w fun e w' => e = .returned (.tuple #[.int .u64 (M.leafV h i), .int .i64 (M.leafE h i)]) ∧ w' = w := by
  by_cases hh : 1 ≤ h ∧ h ≤ 32
  · obtain ⟨hh1, hh2⟩ := hh
    have hp := M.p2_32 hh2
    by_cases hi : i < M.p2 h
    · have E : M.leafE h i = 0 := M.leafE_yes hh1 hh2 hi
      have V : M.leafV h i = M.p2 h + i := by unfold M.leafV; rw [if_pos E]
      go_enter Try.func37, Try.ntmps37
      go_wp2_with (first | (go_at_call 59; refine (power_any _ _ (by omega) (by omega)).mono ?_; rintro e w' ⟨rfl, hw⟩; subst w'))
      go_ret2
      rw [E, V]; exact ⟨rfl, rfl⟩
    · have E : M.leafE h i = 4 := M.leafE_no hh1 hh2 hi
      have V : M.leafV h i = 0 := by unfold M.leafV; rw [E]; rfl
      go_enter Try.func37, Try.ntmps37
      go_wp2_with (first | (go_at_call 59; refine (power_any _ _ (by omega) (by omega)).mono ?_; rintro e w' ⟨rfl, hw⟩; subst w'))
      go_ret2
      rw [E, V]; exact ⟨rfl, rfl⟩
  · have E : M.leafE h i = 1 := M.leafE_ht hh
    have V : M.leafV h i = 0 := by unfold M.leafV; rw [E]; rfl
    replace hh : h < 1 ∨ (1 ≤ h ∧ 32 < h) := by omega
    rcases hh with hh | ⟨hh0, hh⟩
    all_goals
      go_enter Try.func37, Try.ntmps37
      go_wp2
      go_ret2
      rw [E, V]; exact ⟨rfl, rfl⟩
end Go.Proofs.Ythmiieiajfghnaa
