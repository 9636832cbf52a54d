/-
  What node.Leaf, Depth, Up, Child, Other and Above answer at every input. Conditions: the numbers fit their kinds.
-/
import Derived.Test.YtnfobglaeaalfaaW1
namespace Go.Proofs.Ytnfobglaeaalfaa
open Go.RowKit

set_option maxHeartbeats 400000 in
theorem leaf_any (h i : Int) (w : World) (h0 : 0 ≤ i) (h1 : i ≤ 18446744073709551615) :
    Calls Try.prog 33 #[.int .i64 h, .int .u64 i] w fun e w' => e = .returned (.tuple #[.int .u64 (M.leafV h i), .int .i64 (M.leafE h i)]) ∧ w' = w := by
  by_cases hh : 1 ≤ h ∧ h ≤ 32
  · obtain ⟨hh1, hh2⟩ := hh
    have hp := M.p2_32 hh2
    by_cases hi : i < M.p2 h
    · have E : M.leafE h i = 0 := M.leafE_yes hh1 hh2 hi
      have V : M.leafV h i = M.p2 h + i := by unfold M.leafV; rw [if_pos E]
      go_enter Try.func33, Try.ntmps33
      go_wp2_with (first | (go_at_call 51; refine (isHeight_yes _ _ (by omega) (by omega)).mono ?_; rintro e w' ⟨rfl, rfl⟩) | (go_at_call 49; refine (firstLeaf_any _ _ (by omega) (by omega)).mono ?_; rintro e w' ⟨rfl, rfl⟩))
      go_ret2
      rw [E, V]; exact ⟨rfl, rfl⟩
    · have E : M.leafE h i = 4 := M.leafE_no hh1 hh2 hi
      have V : M.leafV h i = 0 := by unfold M.leafV; rw [E]; rfl
      go_enter Try.func33, Try.ntmps33
      go_wp2_with (first | (go_at_call 51; refine (isHeight_yes _ _ (by omega) (by omega)).mono ?_; rintro e w' ⟨rfl, rfl⟩) | (go_at_call 49; refine (firstLeaf_any _ _ (by omega) (by omega)).mono ?_; rintro e w' ⟨rfl, rfl⟩))
      go_ret2
      rw [E, V]; exact ⟨rfl, rfl⟩
  · have E : M.leafE h i = 1 := M.leafE_ht hh
    have V : M.leafV h i = 0 := by unfold M.leafV; rw [E]; rfl
    go_enter Try.func33, Try.ntmps33
    go_wp2_with (first | (go_at_call 51; refine (isHeight_no _ _ (by omega)).mono ?_; rintro e w' ⟨rfl, rfl⟩))
    go_ret2
    rw [E, V]; exact ⟨rfl, rfl⟩
set_option maxHeartbeats 400000 in
theorem depth_any (h n : Int) (w : World) (h0 : 0 ≤ n) (h1 : n ≤ 18446744073709551615) :
    Calls Try.prog 61 #[.int .i64 h, .int .u64 n] w fun e w' => e = .returned (.tuple #[.int .i64 (M.depV h n), .int .i64 (M.eChk h n)]) ∧ w' = w := by
  by_cases hk : M.okB h n = true
  · have E : M.eChk h n = 0 := M.eChk_ok hk
    have V : M.depV h n = M.dep n := by unfold M.depV; rw [if_pos hk]
    have hn := (M.ok_of hk).2.2.1
    go_enter Try.func61, Try.ntmps61
    go_wp2_with (first | (go_at_call 38; refine (check_any _ _ _ (by omega) (by omega)).mono ?_; rintro e w' ⟨rfl, rfl⟩) | (go_at_call 48; refine (depthOf_any _ _ (by omega) (by omega)).mono ?_; rintro e w' ⟨rfl, rfl⟩))
    go_ret2
    rw [E, V]; exact ⟨rfl, rfl⟩
  · have E : M.eChk h n = 1 := M.eChk_nok hk
    have V : M.depV h n = 0 := by unfold M.depV; rw [if_neg hk]
    clear hk
    go_enter Try.func61, Try.ntmps61
    go_wp2_with (first | (go_at_call 38; refine (check_any _ _ _ (by omega) (by omega)).mono ?_; rintro e w' ⟨rfl, rfl⟩) | (go_at_call 48; refine (depthOf_any _ _ (by omega) (by omega)).mono ?_; rintro e w' ⟨rfl, rfl⟩))
    go_ret2
    rw [E, V]; exact ⟨rfl, rfl⟩
set_option maxHeartbeats 400000 in
theorem up_any (h n d : Int) (w : World) (h0 : 0 ≤ n) (h1 : n ≤ 18446744073709551615) :
    Calls Try.prog 62 #[.int .i64 h, .int .u64 n, .int .i64 d] w fun e w' => e = .returned (.tuple #[.int .u64 (M.upV h n d), .int .i64 (M.upE h n d)]) ∧ w' = w := by
  by_cases hk : M.okB h n = true
  · have C : M.eChk h n = 0 := M.eChk_ok hk
    have hn := (M.ok_of hk).2.2.1
    by_cases hd : 0 ≤ d
    · by_cases hd2 : d ≤ M.dep n
      · have E : M.upE h n d = 0 := by unfold M.upE; rw [if_pos hk, if_pos ⟨hd, hd2⟩]
        have V : M.upV h n d = M.up n d := by unfold M.upV; rw [if_pos E]
        have g : ¬ (M.dep n < d) := by omega
        go_enter Try.func62, Try.ntmps62
        go_wp2_with (first | (go_at_call 38; refine (check_any _ _ _ (by omega) (by omega)).mono ?_; rintro e w' ⟨rfl, rfl⟩) | (go_at_call 48; refine (depthOf_any _ _ (by omega) (by omega)).mono ?_; rintro e w' ⟨rfl, rfl⟩) | (go_at_call 65; refine (upTo_any _ _ _ (by omega) (by omega) (by omega) (by omega)).mono ?_; rintro e w' ⟨rfl, rfl⟩))
        go_ret2
        rw [E, V]; exact ⟨rfl, rfl⟩
      · have E : M.upE h n d = 4 := by unfold M.upE; rw [if_pos hk, if_neg (by omega)]
        have V : M.upV h n d = 0 := by unfold M.upV; rw [E]; rfl
        have g : (M.dep n < d) := by omega
        go_enter Try.func62, Try.ntmps62
        go_wp2_with (first | (go_at_call 38; refine (check_any _ _ _ (by omega) (by omega)).mono ?_; rintro e w' ⟨rfl, rfl⟩) | (go_at_call 48; refine (depthOf_any _ _ (by omega) (by omega)).mono ?_; rintro e w' ⟨rfl, rfl⟩) | (go_at_call 65; refine (upTo_any _ _ _ (by omega) (by omega) (by omega) (by omega)).mono ?_; rintro e w' ⟨rfl, rfl⟩))
        go_ret2
        rw [E, V]; exact ⟨rfl, rfl⟩
    · have E : M.upE h n d = 4 := by unfold M.upE; rw [if_pos hk, if_neg (by omega)]
      have V : M.upV h n d = 0 := by unfold M.upV; rw [E]; rfl
      go_enter Try.func62, Try.ntmps62
      go_wp2_with (first | (go_at_call 38; refine (check_any _ _ _ (by omega) (by omega)).mono ?_; rintro e w' ⟨rfl, rfl⟩) | (go_at_call 48; refine (depthOf_any _ _ (by omega) (by omega)).mono ?_; rintro e w' ⟨rfl, rfl⟩) | (go_at_call 65; refine (upTo_any _ _ _ (by omega) (by omega) (by omega) (by omega)).mono ?_; rintro e w' ⟨rfl, rfl⟩))
      go_ret2
      rw [E, V]; exact ⟨rfl, rfl⟩
  · have C : M.eChk h n = 1 := M.eChk_nok hk
    have E : M.upE h n d = 1 := by unfold M.upE; rw [if_neg hk]
    have V : M.upV h n d = 0 := by unfold M.upV; rw [E]; rfl
    clear hk
    go_enter Try.func62, Try.ntmps62
    go_wp2_with (first | (go_at_call 38; refine (check_any _ _ _ (by omega) (by omega)).mono ?_; rintro e w' ⟨rfl, rfl⟩) | (go_at_call 48; refine (depthOf_any _ _ (by omega) (by omega)).mono ?_; rintro e w' ⟨rfl, rfl⟩))
    go_ret2
    rw [E, V]; exact ⟨rfl, rfl⟩
set_option maxHeartbeats 400000 in
theorem checkBoth_any (h a b : Int) (w : World) (h0 : 0 ≤ a) (h1 : a ≤ 18446744073709551615) (h2 : 0 ≤ b) (h3 : b ≤ 18446744073709551615) :
    Calls Try.prog 59 #[.int .i64 h, .int .u64 a, .int .u64 b] w fun e w' => e = .returned (.int .i64 (M.eBoth h a b)) ∧ w' = w := by
  by_cases hk : M.okB h a = true
  · have C : M.eChk h a = 0 := M.eChk_ok hk
    have E : M.eBoth h a b = M.eChk h b := by unfold M.eBoth M.eChk; rw [hk]; simp
    go_enter Try.func59, Try.ntmps59
    go_wp2_with (first | (go_at_call 38; refine (check_any _ _ _ (by omega) (by omega)).mono ?_; rintro e w' ⟨rfl, rfl⟩))
    go_ret
    rw [E]; exact ⟨rfl, rfl⟩
  · have C : M.eChk h a = 1 := M.eChk_nok hk
    have E : M.eBoth h a b = 1 := by unfold M.eBoth; rw [Bool.eq_false_iff.2 hk]; rfl
    clear hk
    go_enter Try.func59, Try.ntmps59
    go_wp2_with (first | (go_at_call 38; refine (check_any _ _ _ (by omega) (by omega)).mono ?_; rintro e w' ⟨rfl, rfl⟩))
    go_ret
    rw [E]; exact ⟨rfl, rfl⟩
set_option maxHeartbeats 400000 in
theorem above_any (h a b : Int) (w : World) (h0 : 0 ≤ a) (h1 : a ≤ 18446744073709551615) (h2 : 0 ≤ b) (h3 : b ≤ 18446744073709551615) :
    Calls Try.prog 39 #[.int .i64 h, .int .u64 a, .int .u64 b] w fun e w' => e = .returned (.tuple #[.bool (M.abvV h a b), .int .i64 (M.eBoth h a b)]) ∧ w' = w := by
  by_cases hk : M.okB h a = true ∧ M.okB h b = true
  · have E : M.eBoth h a b = 0 := by unfold M.eBoth; rw [hk.1, hk.2]; rfl
    have V : M.abvV h a b = M.abv a b := by unfold M.abvV; rw [hk.1, hk.2]; rfl
    have k1 := (M.ok_of hk.1).2.2.1
    have k2 := (M.ok_of hk.2).2.2.1
    clear hk
    go_enter Try.func39, Try.ntmps39
    go_wp2_with (first | (go_at_call 59; refine (checkBoth_any _ _ _ _ (by omega) (by omega) (by omega) (by omega)).mono ?_; rintro e w' ⟨rfl, rfl⟩) | (go_at_call 60; refine (isAbove_any _ _ _ (by omega) (by omega) (by omega) (by omega)).mono ?_; rintro e w' ⟨rfl, rfl⟩))
    go_ret2
    rw [E, V]; exact ⟨rfl, rfl⟩
  · have E : M.eBoth h a b = 1 := M.eBoth_no hk
    have V : M.abvV h a b = false := by unfold M.abvV; cases hx : M.okB h a <;> simp_all
    clear hk
    go_enter Try.func39, Try.ntmps39
    go_wp2_with (first | (go_at_call 59; refine (checkBoth_any _ _ _ _ (by omega) (by omega) (by omega) (by omega)).mono ?_; rintro e w' ⟨rfl, rfl⟩) | (go_at_call 60; refine (isAbove_any _ _ _ (by omega) (by omega) (by omega) (by omega)).mono ?_; rintro e w' ⟨rfl, rfl⟩))
    go_ret2
    rw [E, V]; exact ⟨rfl, rfl⟩
end Go.Proofs.Ytnfobglaeaalfaa
