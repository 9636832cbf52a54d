/-
  What node's small functions do (heights, powers, depths, nodes above, Check), call by call. Conditions: each theorem's own premises.
-/
import Derived.Test.YthmiekinjfaflaaGreatRows
import Derived.Test.YthmiekinjfaflaaGreatZMath
import Derived.WalkKit
import Derived.WalkSpells
import Derived.WalkLawsBesides
import Derived.Deep.QuietTactic
import Derived.BigQuiet
namespace Go.Proofs.YthmiekinjfaflaaGreat
open Go.RowKit

set_option maxRecDepth 100000 in
set_option maxHeartbeats 400000 in
theorem firstLeaf_any (h : Int) (w : World) (h0 : 0 ≤ h) (h1 : h ≤ 32) :
    Calls Tryz.prog 46 #[.int .i64 h] w fun e w' => e = .returned (.int .u64 (M.p2 h)) ∧ w' = w := by
  go_enter Tryz.func46, Tryz.ntmps46
  go_wp2
  go_ret
  exact ⟨M.ret_int (M.wrapu_id (by have := M.p2_pos h; unfold M.p2 at this; omega) (by have := M.p2_32 h1; unfold M.p2 at this; omega)), rfl⟩
set_option maxRecDepth 100000 in
set_option maxHeartbeats 400000 in
theorem isHeight_yes (h : Int) (w : World) (h0 : 1 ≤ h) (h1 : h ≤ 32) :
    Calls Tryz.prog 45 #[.int .i64 h] w fun e w' => e = .returned (.bool true) ∧ w' = w := by
  go_enter Tryz.func45, Tryz.ntmps45
  go_wp2
  go_ret
  exact ⟨rfl, rfl⟩
set_option maxRecDepth 100000 in
set_option maxHeartbeats 400000 in
theorem isHeight_no (h : Int) (w : World) (hn : ¬ (1 ≤ h ∧ h ≤ 32)) :
    Calls Tryz.prog 45 #[.int .i64 h] w fun e w' => e = .returned (.bool false) ∧ w' = w := by
  by_cases h0 : 1 ≤ h
  · have h1 : ¬ h ≤ 32 := by omega
    clear hn
    go_enter Tryz.func45, Tryz.ntmps45
    go_wp2
    go_ret
    exact ⟨rfl, rfl⟩
  · clear hn
    go_enter Tryz.func45, Tryz.ntmps45
    go_wp2
    go_ret
    exact ⟨rfl, rfl⟩
theorem len_close (x y : Int) (k : Nat) (hk : k ≤ 56) (hy : y.toNat = x.toNat / 2 ^ k) (h0 : x.toNat / 2 ^ k ≠ 0) (h8 : y.toNat < 256) :
    wrap64 ((k : Int) + wrap64 ((bitLen y.toNat : Nat) : Int)) = ((bitLen x.toNat : Nat) : Int) := by
  have h1 := bitLen_shift x.toNat k h0
  have h2 := bitLen_le8 y.toNat h8
  rw [hy] at h2 ⊢
  rw [h1]
  unfold wrap64
  omega
theorem len_close0 (x : Int) (h8 : x.toNat < 256) :
    wrap64 (wrap64 ((bitLen x.toNat : Nat) : Int)) = ((bitLen x.toNat : Nat) : Int) := by
  have h2 := bitLen_le8 x.toNat h8
  unfold wrap64
  omega
set_option maxHeartbeats 4000000 in
set_option maxRecDepth 100000 in
theorem len64_any (x : Int) (w : World) (h0 : 0 ≤ x) (h1 : x ≤ 18446744073709551615) :
    Calls Tryz.prog 82 #[.int .u64 x] w fun e w' => e = .returned (.int .i64 (bitLen x.toNat)) ∧ w' = w := by
  go_enter Tryz.func82, Tryz.ntmps82
  go_wp2
  all_goals (go_ret; refine ⟨congrArg Ending.returned (congrArg (Value.int IntKind.i64) ?_), rfl⟩)
  all_goals rw [len8tab_get]
  · exact len_close x _ 56 (by decide) (by omega) (by omega) (by omega)
  · exact len_close x _ 48 (by decide) (by omega) (by omega) (by omega)
  · exact len_close x _ 40 (by decide) (by omega) (by omega) (by omega)
  · exact len_close x _ 32 (by decide) (by omega) (by omega) (by omega)
  · exact len_close x _ 24 (by decide) (by omega) (by omega) (by omega)
  · exact len_close x _ 16 (by decide) (by omega) (by omega) (by omega)
  · exact len_close x _ 8 (by decide) (by omega) (by omega) (by omega)
  · exact len_close0 x (by omega)
set_option maxRecDepth 100000 in
set_option maxHeartbeats 400000 in
theorem depthOf_any (n : Int) (w : World) (h0 : 1 ≤ n) (h1 : n ≤ 18446744073709551615) :
    Calls Tryz.prog 67 #[.int .u64 n] w fun e w' => e = .returned (.int .i64 (M.dep n)) ∧ w' = w := by
  have hb := M.bitLen_dep n h0
  have h3 := M.dep_nonneg n
  have h4 := M.dep_63 h0 h1
  go_enter Tryz.func67, Tryz.ntmps67
  go_wp2_with (go_at_call 82; refine (len64_any _ _ (by omega) (by omega)).mono ?_; rintro e w' ⟨rfl, rfl⟩)
  go_ret
  exact ⟨rfl, rfl⟩
set_option maxRecDepth 100000 in
set_option maxHeartbeats 400000 in
theorem upTo_any (n d : Int) (w : World) (h0 : 1 ≤ n) (h1 : n ≤ 18446744073709551615) (h2 : 0 ≤ d) (h3 : d ≤ M.dep n) :
    Calls Tryz.prog 68 #[.int .u64 n, .int .i64 d] w fun e w' => e = .returned (.int .u64 (M.up n d)) ∧ w' = w := by
  have h5 := M.dep_63 h0 h1
  go_enter Tryz.func68, Tryz.ntmps68
  go_wp2_with (go_at_call 67; refine (depthOf_any _ _ (by omega) (by omega)).mono ?_; rintro e w' ⟨rfl, rfl⟩)
  go_ret
  exact ⟨rfl, rfl⟩
set_option maxRecDepth 100000 in
set_option maxHeartbeats 400000 in
theorem lastNode_any (h : Int) (w : World) (h0 : 0 ≤ h) (h1 : h ≤ 32) :
    Calls Tryz.prog 81 #[.int .i64 h] w fun e w' => e = .returned (.int .u64 (2 * M.p2 h - 1)) ∧ w' = w := by
  have h2 := M.p2_pos h
  have h3 := M.p2_32 h1
  go_enter Tryz.func81, Tryz.ntmps81
  go_wp2_with (go_at_call 46; refine (firstLeaf_any _ _ (by omega) (by omega)).mono ?_; rintro e w' ⟨rfl, rfl⟩)
  go_ret
  exact ⟨rfl, rfl⟩
set_option maxRecDepth 100000 in
set_option maxHeartbeats 400000 in
theorem isAbove_any (a b : Int) (w : World) (h0 : 1 ≤ a) (h1 : a ≤ 18446744073709551615) (h2 : 1 ≤ b) (h3 : b ≤ 18446744073709551615) :
    Calls Tryz.prog 85 #[.int .u64 a, .int .u64 b] w fun e w' => e = .returned (.bool (M.abv a b)) ∧ w' = w := by
  have h6 := M.dep_nonneg a
  have h7 := M.dep_nonneg b
  have h4 := M.dep_63 h0 h1
  have h5 := M.dep_63 h2 h3
  by_cases hc : M.dep a ≤ M.dep b
  · have hd : decide (M.dep a ≤ M.dep b) = true := by simpa using hc
    go_enter Tryz.func85, Tryz.ntmps85
    go_wp2_with (first | (go_at_call 67; refine (depthOf_any _ _ (by omega) (by omega)).mono ?_; rintro e w' ⟨rfl, rfl⟩) | (go_at_call 68; refine (upTo_any _ _ _ (by omega) (by omega) (by omega) (by omega)).mono ?_; rintro e w' ⟨rfl, rfl⟩))
    go_ret
    exact ⟨M.ret_bool (by unfold M.abv; rw [hd]; rfl), rfl⟩
  · have hd : decide (M.dep a ≤ M.dep b) = false := by simpa using hc
    go_enter Tryz.func85, Tryz.ntmps85
    go_wp2_with (first | (go_at_call 67; refine (depthOf_any _ _ (by omega) (by omega)).mono ?_; rintro e w' ⟨rfl, rfl⟩) | (go_at_call 68; refine (upTo_any _ _ _ (by omega) (by omega) (by omega) (by omega)).mono ?_; rintro e w' ⟨rfl, rfl⟩))
    go_ret
    exact ⟨M.ret_bool (by unfold M.abv; rw [hd]; rfl), rfl⟩
set_option maxRecDepth 100000 in
set_option maxHeartbeats 400000 in
theorem sideOf_any (n : Int) (w : World) (h0 : 0 ≤ n) (h1 : n ≤ 18446744073709551615) :
    Calls Tryz.prog 86 #[.int .u64 n] w fun e w' => e = .returned (.int .i64 (n % 2)) ∧ w' = w := by
  go_enter Tryz.func86, Tryz.ntmps86
  go_wp2
  go_ret
  exact ⟨M.ret_int (M.and_one n h0 h1), rfl⟩
set_option maxRecDepth 100000 in
set_option maxHeartbeats 400000 in
theorem nodechk_any (h n : Int) (w : World) (hn0 : 0 ≤ n) (hn1 : n ≤ 18446744073709551615) :
    Calls Tryz.prog 66 #[.int .i64 h, .int .u64 n] w fun e w' => e = .returned (.int .i64 (M.eChk h n)) ∧ w' = w := by
  by_cases hh : 1 ≤ h ∧ h ≤ 32
  · by_cases h1 : 1 ≤ n
    · by_cases h2 : n < 2 * M.p2 h
      · have hE : M.eChk h n = 0 := M.eChk_yes hh.1 hh.2 h1 h2
        have g : ¬ (2 * M.p2 h - 1 < n) := by omega
        obtain ⟨hh1, hh2⟩ := hh
        go_enter Tryz.func66, Tryz.ntmps66
        go_wp2_with (first | (go_at_call 45; refine (isHeight_yes _ _ (by omega) (by omega)).mono ?_; rintro e w' ⟨rfl, rfl⟩) | (go_at_call 81; refine (lastNode_any _ _ (by omega) (by omega)).mono ?_; rintro e w' ⟨rfl, rfl⟩))
        go_ret
        exact ⟨M.ret_int hE.symm, rfl⟩
      · have hE : M.eChk h n = 1 := M.eChk_no (by omega)
        have g : 2 * M.p2 h - 1 < n := by omega
        obtain ⟨hh1, hh2⟩ := hh
        go_enter Tryz.func66, Tryz.ntmps66
        go_wp2_with (first | (go_at_call 45; refine (isHeight_yes _ _ (by omega) (by omega)).mono ?_; rintro e w' ⟨rfl, rfl⟩) | (go_at_call 81; refine (lastNode_any _ _ (by omega) (by omega)).mono ?_; rintro e w' ⟨rfl, rfl⟩))
        go_ret
        exact ⟨M.ret_int hE.symm, rfl⟩
    · have hE : M.eChk h n = 1 := M.eChk_no (by omega)
      obtain ⟨hh1, hh2⟩ := hh
      go_enter Tryz.func66, Tryz.ntmps66
      go_wp2_with (first | (go_at_call 45; refine (isHeight_yes _ _ (by omega) (by omega)).mono ?_; rintro e w' ⟨rfl, rfl⟩) | (go_at_call 81; refine (lastNode_any _ _ (by omega) (by omega)).mono ?_; rintro e w' ⟨rfl, rfl⟩))
      go_ret
      exact ⟨M.ret_int hE.symm, rfl⟩
  · have hE : M.eChk h n = 1 := M.eChk_no (by omega)
    go_enter Tryz.func66, Tryz.ntmps66
    go_wp2_with (first | (go_at_call 45; refine (isHeight_no _ _ (by omega)).mono ?_; rintro e w' ⟨rfl, rfl⟩))
    go_ret
    exact ⟨M.ret_int hE.symm, rfl⟩
end Go.Proofs.YthmiekinjfaflaaGreat
namespace Go.Proofs.YthmiekinjfaflaaGreat
open Go.RowKit

set_option maxRecDepth 100000 in
set_option maxHeartbeats 400000 in
theorem leaf_any (h i : Int) (w : World) (h0 : 0 ≤ i) (h1 : i ≤ 18446744073709551615) :
    Calls Tryz.prog 25 #[.int .i64 h, .int .u64 i] w fun e w' => e = .returned (.tuple #[.int .u64 (M.leafV h i), .int .i64 (M.leafE h i)]) ∧ w' = w := by
  by_cases hh : 1 ≤ h ∧ h ≤ 32
  · obtain ⟨hh1, hh2⟩ := hh
    have hp := M.p2_32 hh2
    by_cases hi : i < M.p2 h
    · have E : M.leafE h i = 0 := M.leafE_yes hh1 hh2 hi
      have V : M.leafV h i = M.p2 h + i := by unfold M.leafV; rw [if_pos E]
      go_enter Tryz.func25, Tryz.ntmps25
      go_wp2_with (first | (go_at_call 45; refine (isHeight_yes _ _ (by omega) (by omega)).mono ?_; rintro e w' ⟨rfl, rfl⟩) | (go_at_call 46; refine (firstLeaf_any _ _ (by omega) (by omega)).mono ?_; rintro e w' ⟨rfl, rfl⟩))
      go_ret2
      rw [E, V]; exact ⟨rfl, rfl⟩
    · have E : M.leafE h i = 4 := M.leafE_no hh1 hh2 hi
      have V : M.leafV h i = 0 := by unfold M.leafV; rw [E]; rfl
      go_enter Tryz.func25, Tryz.ntmps25
      go_wp2_with (first | (go_at_call 45; refine (isHeight_yes _ _ (by omega) (by omega)).mono ?_; rintro e w' ⟨rfl, rfl⟩) | (go_at_call 46; refine (firstLeaf_any _ _ (by omega) (by omega)).mono ?_; rintro e w' ⟨rfl, rfl⟩))
      go_ret2
      rw [E, V]; exact ⟨rfl, rfl⟩
  · have E : M.leafE h i = 1 := M.leafE_ht hh
    have V : M.leafV h i = 0 := by unfold M.leafV; rw [E]; rfl
    go_enter Tryz.func25, Tryz.ntmps25
    go_wp2_with (first | (go_at_call 45; refine (isHeight_no _ _ (by omega)).mono ?_; rintro e w' ⟨rfl, rfl⟩))
    go_ret2
    rw [E, V]; exact ⟨rfl, rfl⟩
set_option maxRecDepth 100000 in
set_option maxHeartbeats 400000 in
theorem depth_any (h n : Int) (w : World) (h0 : 0 ≤ n) (h1 : n ≤ 18446744073709551615) :
    Calls Tryz.prog 95 #[.int .i64 h, .int .u64 n] w fun e w' => e = .returned (.tuple #[.int .i64 (M.depV h n), .int .i64 (M.eChk h n)]) ∧ w' = w := by
  by_cases hk : M.okB h n = true
  · have E : M.eChk h n = 0 := M.eChk_ok hk
    have V : M.depV h n = M.dep n := by unfold M.depV; rw [if_pos hk]
    have hn := (M.ok_of hk).2.2.1
    go_enter Tryz.func95, Tryz.ntmps95
    go_wp2_with (first | (go_at_call 66; refine (nodechk_any _ _ _ (by omega) (by omega)).mono ?_; rintro e w' ⟨rfl, rfl⟩) | (go_at_call 67; refine (depthOf_any _ _ (by omega) (by omega)).mono ?_; rintro e w' ⟨rfl, rfl⟩))
    go_ret2
    rw [E, V]; exact ⟨rfl, rfl⟩
  · have E : M.eChk h n = 1 := M.eChk_nok hk
    have V : M.depV h n = 0 := by unfold M.depV; rw [if_neg hk]
    clear hk
    go_enter Tryz.func95, Tryz.ntmps95
    go_wp2_with (first | (go_at_call 66; refine (nodechk_any _ _ _ (by omega) (by omega)).mono ?_; rintro e w' ⟨rfl, rfl⟩) | (go_at_call 67; refine (depthOf_any _ _ (by omega) (by omega)).mono ?_; rintro e w' ⟨rfl, rfl⟩))
    go_ret2
    rw [E, V]; exact ⟨rfl, rfl⟩
set_option maxRecDepth 100000 in
set_option maxHeartbeats 400000 in
theorem up_any (h n d : Int) (w : World) (h0 : 0 ≤ n) (h1 : n ≤ 18446744073709551615) :
    Calls Tryz.prog 47 #[.int .i64 h, .int .u64 n, .int .i64 d] w fun e w' => e = .returned (.tuple #[.int .u64 (M.upV h n d), .int .i64 (M.upE h n d)]) ∧ w' = w := by
  by_cases hk : M.okB h n = true
  · have C : M.eChk h n = 0 := M.eChk_ok hk
    have hn := (M.ok_of hk).2.2.1
    by_cases hd : 0 ≤ d
    · by_cases hd2 : d ≤ M.dep n
      · have E : M.upE h n d = 0 := by unfold M.upE; rw [if_pos hk, if_pos ⟨hd, hd2⟩]
        have V : M.upV h n d = M.up n d := by unfold M.upV; rw [if_pos E]
        have g : ¬ (M.dep n < d) := by omega
        go_enter Tryz.func47, Tryz.ntmps47
        go_wp2_with (first | (go_at_call 66; refine (nodechk_any _ _ _ (by omega) (by omega)).mono ?_; rintro e w' ⟨rfl, rfl⟩) | (go_at_call 67; refine (depthOf_any _ _ (by omega) (by omega)).mono ?_; rintro e w' ⟨rfl, rfl⟩) | (go_at_call 68; refine (upTo_any _ _ _ (by omega) (by omega) (by omega) (by omega)).mono ?_; rintro e w' ⟨rfl, rfl⟩))
        go_ret2
        rw [E, V]; exact ⟨rfl, rfl⟩
      · have E : M.upE h n d = 4 := by unfold M.upE; rw [if_pos hk, if_neg (by omega)]
        have V : M.upV h n d = 0 := by unfold M.upV; rw [E]; rfl
        have g : (M.dep n < d) := by omega
        go_enter Tryz.func47, Tryz.ntmps47
        go_wp2_with (first | (go_at_call 66; refine (nodechk_any _ _ _ (by omega) (by omega)).mono ?_; rintro e w' ⟨rfl, rfl⟩) | (go_at_call 67; refine (depthOf_any _ _ (by omega) (by omega)).mono ?_; rintro e w' ⟨rfl, rfl⟩) | (go_at_call 68; refine (upTo_any _ _ _ (by omega) (by omega) (by omega) (by omega)).mono ?_; rintro e w' ⟨rfl, rfl⟩))
        go_ret2
        rw [E, V]; exact ⟨rfl, rfl⟩
    · have E : M.upE h n d = 4 := by unfold M.upE; rw [if_pos hk, if_neg (by omega)]
      have V : M.upV h n d = 0 := by unfold M.upV; rw [E]; rfl
      go_enter Tryz.func47, Tryz.ntmps47
      go_wp2_with (first | (go_at_call 66; refine (nodechk_any _ _ _ (by omega) (by omega)).mono ?_; rintro e w' ⟨rfl, rfl⟩) | (go_at_call 67; refine (depthOf_any _ _ (by omega) (by omega)).mono ?_; rintro e w' ⟨rfl, rfl⟩) | (go_at_call 68; refine (upTo_any _ _ _ (by omega) (by omega) (by omega) (by omega)).mono ?_; rintro e w' ⟨rfl, rfl⟩))
      go_ret2
      rw [E, V]; exact ⟨rfl, rfl⟩
  · have C : M.eChk h n = 1 := M.eChk_nok hk
    have E : M.upE h n d = 1 := by unfold M.upE; rw [if_neg hk]
    have V : M.upV h n d = 0 := by unfold M.upV; rw [E]; rfl
    clear hk
    go_enter Tryz.func47, Tryz.ntmps47
    go_wp2_with (first | (go_at_call 66; refine (nodechk_any _ _ _ (by omega) (by omega)).mono ?_; rintro e w' ⟨rfl, rfl⟩) | (go_at_call 67; refine (depthOf_any _ _ (by omega) (by omega)).mono ?_; rintro e w' ⟨rfl, rfl⟩))
    go_ret2
    rw [E, V]; exact ⟨rfl, rfl⟩
set_option maxRecDepth 100000 in
set_option maxHeartbeats 400000 in
theorem other_any (h n : Int) (w : World) (h0 : 0 ≤ n) (h1 : n ≤ 18446744073709551615) :
    Calls Tryz.prog 48 #[.int .i64 h, .int .u64 n] w fun e w' => e = .returned (.tuple #[.int .u64 (M.othV h n), .int .i64 (M.othE h n)]) ∧ w' = w := by
  by_cases hk : M.okB h n = true
  · have C : M.eChk h n = 0 := M.eChk_ok hk
    obtain ⟨k1, k2, k3, k4⟩ := M.ok_of hk
    by_cases hr : n = 1
    · have E : M.othE h n = 4 := by unfold M.othE; rw [if_pos hk, if_pos hr]
      have V : M.othV h n = 0 := by unfold M.othV; rw [E]; rfl
      have g : (n == 1) = true := by rw [beq_iff_eq]; exact hr
      clear hr
      go_enter Tryz.func48, Tryz.ntmps48
      go_wp2_with (first | (go_at_call 66; refine (nodechk_any _ _ _ (by omega) (by omega)).mono ?_; rintro e w' ⟨rfl, rfl⟩))
      go_ret2
      rw [E, V]; exact ⟨rfl, rfl⟩
    · have E : M.othE h n = 0 := by unfold M.othE; rw [if_pos hk, if_neg hr]
      have V : M.othV h n = M.oth n := by unfold M.othV; rw [if_pos E]
      have g : (n == 1) = false := by rw [beq_eq_false_iff_ne]; exact hr
      have X : bits BinOp.xor IntKind.u64 n 1 = M.oth n := M.xor_one n h0 h1
      go_enter Tryz.func48, Tryz.ntmps48
      go_wp2_with (first | (go_at_call 66; refine (nodechk_any _ _ _ (by omega) (by omega)).mono ?_; rintro e w' ⟨rfl, rfl⟩))
      go_ret2
      rw [E, V]; exact ⟨rfl, rfl⟩
  · have C : M.eChk h n = 1 := M.eChk_nok hk
    have E : M.othE h n = 1 := by unfold M.othE; rw [if_neg hk]
    have V : M.othV h n = 0 := by unfold M.othV; rw [E]; rfl
    clear hk
    go_enter Tryz.func48, Tryz.ntmps48
    go_wp2_with (first | (go_at_call 66; refine (nodechk_any _ _ _ (by omega) (by omega)).mono ?_; rintro e w' ⟨rfl, rfl⟩))
    go_ret2
    rw [E, V]; exact ⟨rfl, rfl⟩
set_option maxRecDepth 100000 in
set_option maxHeartbeats 400000 in
theorem checkBoth_any (h a b : Int) (w : World) (h0 : 0 ≤ a) (h1 : a ≤ 18446744073709551615) (h2 : 0 ≤ b) (h3 : b ≤ 18446744073709551615) :
    Calls Tryz.prog 84 #[.int .i64 h, .int .u64 a, .int .u64 b] w fun e w' => e = .returned (.int .i64 (M.eBoth h a b)) ∧ w' = w := by
  by_cases hk : M.okB h a = true
  · have C : M.eChk h a = 0 := M.eChk_ok hk
    have E : M.eBoth h a b = M.eChk h b := by unfold M.eBoth M.eChk; rw [hk]; simp
    go_enter Tryz.func84, Tryz.ntmps84
    go_wp2_with (first | (go_at_call 66; refine (nodechk_any _ _ _ (by omega) (by omega)).mono ?_; rintro e w' ⟨rfl, rfl⟩))
    go_ret
    rw [E]; exact ⟨rfl, rfl⟩
  · have C : M.eChk h a = 1 := M.eChk_nok hk
    have E : M.eBoth h a b = 1 := by unfold M.eBoth; rw [Bool.eq_false_iff.2 hk]; rfl
    clear hk
    go_enter Tryz.func84, Tryz.ntmps84
    go_wp2_with (first | (go_at_call 66; refine (nodechk_any _ _ _ (by omega) (by omega)).mono ?_; rintro e w' ⟨rfl, rfl⟩))
    go_ret
    rw [E]; exact ⟨rfl, rfl⟩
set_option maxRecDepth 100000 in
set_option maxHeartbeats 400000 in
theorem above_any (h a b : Int) (w : World) (h0 : 0 ≤ a) (h1 : a ≤ 18446744073709551615) (h2 : 0 ≤ b) (h3 : b ≤ 18446744073709551615) :
    Calls Tryz.prog 76 #[.int .i64 h, .int .u64 a, .int .u64 b] w fun e w' => e = .returned (.tuple #[.bool (M.abvV h a b), .int .i64 (M.eBoth h a b)]) ∧ w' = w := by
  by_cases hk : M.okB h a = true ∧ M.okB h b = true
  · have E : M.eBoth h a b = 0 := by unfold M.eBoth; rw [hk.1, hk.2]; rfl
    have V : M.abvV h a b = M.abv a b := by unfold M.abvV; rw [hk.1, hk.2]; rfl
    have k1 := (M.ok_of hk.1).2.2.1
    have k2 := (M.ok_of hk.2).2.2.1
    clear hk
    go_enter Tryz.func76, Tryz.ntmps76
    go_wp2_with (first | (go_at_call 84; refine (checkBoth_any _ _ _ _ (by omega) (by omega) (by omega) (by omega)).mono ?_; rintro e w' ⟨rfl, rfl⟩) | (go_at_call 85; refine (isAbove_any _ _ _ (by omega) (by omega) (by omega) (by omega)).mono ?_; rintro e w' ⟨rfl, rfl⟩))
    go_ret2
    rw [E, V]; exact ⟨rfl, rfl⟩
  · have E : M.eBoth h a b = 1 := M.eBoth_no hk
    have V : M.abvV h a b = false := by unfold M.abvV; cases hx : M.okB h a <;> simp_all
    clear hk
    go_enter Tryz.func76, Tryz.ntmps76
    go_wp2_with (first | (go_at_call 84; refine (checkBoth_any _ _ _ _ (by omega) (by omega) (by omega) (by omega)).mono ?_; rintro e w' ⟨rfl, rfl⟩) | (go_at_call 85; refine (isAbove_any _ _ _ (by omega) (by omega) (by omega) (by omega)).mono ?_; rintro e w' ⟨rfl, rfl⟩))
    go_ret2
    rw [E, V]; exact ⟨rfl, rfl⟩
end Go.Proofs.YthmiekinjfaflaaGreat
namespace Go.Proofs.YthmiekinjfaflaaGreat
open Go.RowKit

end Go.Proofs.YthmiekinjfaflaaGreat
namespace Go.Proofs.YthmiekinjfaflaaGreat
open Go.RowKit
theorem live1 : M.leafV 3 5 = 13 := by decide +kernel
theorem live2 : M.leafE 3 5 = 0 := by decide +kernel
theorem live3 : M.meetV 3 13 12 = 6 := by decide +kernel
theorem live4 : M.eBoth 3 13 12 = 0 := by decide +kernel
end Go.Proofs.YthmiekinjfaflaaGreat
namespace Go.Proofs.YthmiekinjfaflaaGreat
open Go.RowKit
theorem bcell {W w1 : World} (hb : Below W.heap.size W w1) : (∀ b o, b < W.heap.size → w1.cell? ⟨b, o, none⟩ = W.cell? ⟨b, o, none⟩) ∧ (∀ b o, b < W.heap.size → w1.frozen? ⟨b, o, none⟩ = W.frozen? ⟨b, o, none⟩) :=
  ⟨fun b o h => hb.cell (p := ⟨b, o, none⟩) h, fun b o h => hb.frozen (p := ⟨b, o, none⟩) h⟩
theorem below_lt {W w1 : World} {o : Obj} (hb : Below (W.alloc o).heap.size (W.alloc o) w1) : W.heap.size < w1.heap.size := by
  have := hb.size; simp at this; omega
theorem below_one {W w1 : World} {o : Obj} (h1 : Below W.heap.size W w1) : Below W.heap.size W (w1.alloc o) := h1.alloc h1.size o
theorem below_trans {W w1 w2 : World} (h1 : Below W.heap.size W w1) (h2 : Below w1.heap.size w1 w2) : Below W.heap.size W w2 := h1.trans (h2.mono h1.size)
theorem below_two {W w1 w2 : World} {o o' : Obj} (h1 : Below W.heap.size W w1) (h2 : Below (w1.alloc o).heap.size (w1.alloc o) w2) : Below W.heap.size W (w2.alloc o') :=
  below_one (below_trans (below_one h1) h2)
end Go.Proofs.YthmiekinjfaflaaGreat
