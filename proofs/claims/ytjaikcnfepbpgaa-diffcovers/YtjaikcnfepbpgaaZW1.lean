/-
  What node's small functions do (heights, powers, depths, nodes above, Check), call by call. Conditions: each theorem's own premises.
-/
import Derived.Test.YtjaikcnfepbpgaaRows
import Derived.Test.YtjaikcnfepbpgaaZMath
import Derived.WalkKit
import Derived.WalkSpells
import Derived.WalkLawsBesides
namespace Go.Proofs.Ytjaikcnfepbpgaa
open Go.RowKit

set_option maxRecDepth 100000 in
set_option maxHeartbeats 400000 in
theorem firstLeaf_any (h : Int) (w : World) (h0 : 0 ≤ h) (h1 : h ≤ 32) :
    Calls Try.prog 64 #[.int .i64 h] w fun e w' => e = .returned (.int .u64 (M.p2 h)) ∧ w' = w := by
  go_enter Try.func64, Try.ntmps64
  go_wp2
  go_ret
  exact ⟨M.ret_int (M.wrapu_id (by have := M.p2_pos h; unfold M.p2 at this; omega) (by have := M.p2_32 h1; unfold M.p2 at this; omega)), rfl⟩
set_option maxRecDepth 100000 in
set_option maxHeartbeats 400000 in
theorem isHeight_yes (h : Int) (w : World) (h0 : 1 ≤ h) (h1 : h ≤ 32) :
    Calls Try.prog 63 #[.int .i64 h] w fun e w' => e = .returned (.bool true) ∧ w' = w := by
  go_enter Try.func63, Try.ntmps63
  go_wp2
  go_ret
  exact ⟨rfl, rfl⟩
set_option maxRecDepth 100000 in
set_option maxHeartbeats 400000 in
theorem isHeight_no (h : Int) (w : World) (hn : ¬ (1 ≤ h ∧ h ≤ 32)) :
    Calls Try.prog 63 #[.int .i64 h] w fun e w' => e = .returned (.bool false) ∧ w' = w := by
  by_cases h0 : 1 ≤ h
  · have h1 : ¬ h ≤ 32 := by omega
    clear hn
    go_enter Try.func63, Try.ntmps63
    go_wp2
    go_ret
    exact ⟨rfl, rfl⟩
  · clear hn
    go_enter Try.func63, Try.ntmps63
    go_wp2
    go_ret
    exact ⟨rfl, rfl⟩
theorem len_close (x y : Int) (k : Nat) (hk : k ≤ 56) (hy : y.toNat = x.toNat / 2 ^ k) (h0 : x.toNat / 2 ^ k ≠ 0) (h8 : y.toNat < 256) :
    wrap64 ((k : Int) + wrap64 ((bitLen y.toNat : Nat) : Int)) = ((bitLen x.toNat : Nat) : Int) := by
  have h1 := bitLen_shift x.toNat k h0
  have h2 := bitLen_le8 y.toNat h8
  rw [hy] at h2 ⊢
  rw [h1]
  unfold wrap64
  omega
theorem len_close0 (x : Int) (h8 : x.toNat < 256) :
    wrap64 (wrap64 ((bitLen x.toNat : Nat) : Int)) = ((bitLen x.toNat : Nat) : Int) := by
  have h2 := bitLen_le8 x.toNat h8
  unfold wrap64
  omega
set_option maxHeartbeats 4000000 in
set_option maxRecDepth 100000 in
theorem len64_any (x : Int) (w : World) (h0 : 0 ≤ x) (h1 : x ≤ 18446744073709551615) :
    Calls Try.prog 81 #[.int .u64 x] w fun e w' => e = .returned (.int .i64 (bitLen x.toNat)) ∧ w' = w := by
  go_enter Try.func81, Try.ntmps81
  go_wp2
  all_goals (go_ret; refine ⟨congrArg Ending.returned (congrArg (Value.int IntKind.i64) ?_), rfl⟩)
  all_goals rw [len8tab_get]
  · exact len_close x _ 56 (by decide) (by omega) (by omega) (by omega)
  · exact len_close x _ 48 (by decide) (by omega) (by omega) (by omega)
  · exact len_close x _ 40 (by decide) (by omega) (by omega) (by omega)
  · exact len_close x _ 32 (by decide) (by omega) (by omega) (by omega)
  · exact len_close x _ 24 (by decide) (by omega) (by omega) (by omega)
  · exact len_close x _ 16 (by decide) (by omega) (by omega) (by omega)
  · exact len_close x _ 8 (by decide) (by omega) (by omega) (by omega)
  · exact len_close0 x (by omega)
set_option maxRecDepth 100000 in
set_option maxHeartbeats 400000 in
theorem depthOf_any (n : Int) (w : World) (h0 : 1 ≤ n) (h1 : n ≤ 18446744073709551615) :
    Calls Try.prog 72 #[.int .u64 n] w fun e w' => e = .returned (.int .i64 (M.dep n)) ∧ w' = w := by
  have hb := M.bitLen_dep n h0
  have h3 := M.dep_nonneg n
  have h4 := M.dep_63 h0 h1
  go_enter Try.func72, Try.ntmps72
  go_wp2_with (go_at_call 81; refine (len64_any _ _ (by omega) (by omega)).mono ?_; rintro e w' ⟨rfl, rfl⟩)
  go_ret
  exact ⟨rfl, rfl⟩
set_option maxRecDepth 100000 in
set_option maxHeartbeats 400000 in
theorem upTo_any (n d : Int) (w : World) (h0 : 1 ≤ n) (h1 : n ≤ 18446744073709551615) (h2 : 0 ≤ d) (h3 : d ≤ M.dep n) :
    Calls Try.prog 80 #[.int .u64 n, .int .i64 d] w fun e w' => e = .returned (.int .u64 (M.up n d)) ∧ w' = w := by
  have h5 := M.dep_63 h0 h1
  go_enter Try.func80, Try.ntmps80
  go_wp2_with (go_at_call 72; refine (depthOf_any _ _ (by omega) (by omega)).mono ?_; rintro e w' ⟨rfl, rfl⟩)
  go_ret
  exact ⟨rfl, rfl⟩
set_option maxRecDepth 100000 in
set_option maxHeartbeats 400000 in
theorem lastNode_any (h : Int) (w : World) (h0 : 0 ≤ h) (h1 : h ≤ 32) :
    Calls Try.prog 86 #[.int .i64 h] w fun e w' => e = .returned (.int .u64 (2 * M.p2 h - 1)) ∧ w' = w := by
  have h2 := M.p2_pos h
  have h3 := M.p2_32 h1
  go_enter Try.func86, Try.ntmps86
  go_wp2_with (go_at_call 64; refine (firstLeaf_any _ _ (by omega) (by omega)).mono ?_; rintro e w' ⟨rfl, rfl⟩)
  go_ret
  exact ⟨rfl, rfl⟩
set_option maxRecDepth 100000 in
set_option maxHeartbeats 400000 in
theorem isAbove_any (a b : Int) (w : World) (h0 : 1 ≤ a) (h1 : a ≤ 18446744073709551615) (h2 : 1 ≤ b) (h3 : b ≤ 18446744073709551615) :
    Calls Try.prog 87 #[.int .u64 a, .int .u64 b] w fun e w' => e = .returned (.bool (M.abv a b)) ∧ w' = w := by
  have h6 := M.dep_nonneg a
  have h7 := M.dep_nonneg b
  have h4 := M.dep_63 h0 h1
  have h5 := M.dep_63 h2 h3
  by_cases hc : M.dep a ≤ M.dep b
  · have hd : decide (M.dep a ≤ M.dep b) = true := by simpa using hc
    go_enter Try.func87, Try.ntmps87
    go_wp2_with (first | (go_at_call 72; refine (depthOf_any _ _ (by omega) (by omega)).mono ?_; rintro e w' ⟨rfl, rfl⟩) | (go_at_call 80; refine (upTo_any _ _ _ (by omega) (by omega) (by omega) (by omega)).mono ?_; rintro e w' ⟨rfl, rfl⟩))
    go_ret
    exact ⟨M.ret_bool (by unfold M.abv; rw [hd]; rfl), rfl⟩
  · have hd : decide (M.dep a ≤ M.dep b) = false := by simpa using hc
    go_enter Try.func87, Try.ntmps87
    go_wp2_with (first | (go_at_call 72; refine (depthOf_any _ _ (by omega) (by omega)).mono ?_; rintro e w' ⟨rfl, rfl⟩) | (go_at_call 80; refine (upTo_any _ _ _ (by omega) (by omega) (by omega) (by omega)).mono ?_; rintro e w' ⟨rfl, rfl⟩))
    go_ret
    exact ⟨M.ret_bool (by unfold M.abv; rw [hd]; rfl), rfl⟩
set_option maxRecDepth 100000 in
set_option maxHeartbeats 400000 in
theorem check_any (h n : Int) (w : World) (hn0 : 0 ≤ n) (hn1 : n ≤ 18446744073709551615) :
    Calls Try.prog 61 #[.int .i64 h, .int .u64 n] w fun e w' => e = .returned (.int .i64 (M.eChk h n)) ∧ w' = w := by
  by_cases hh : 1 ≤ h ∧ h ≤ 32
  · by_cases h1 : 1 ≤ n
    · by_cases h2 : n < 2 * M.p2 h
      · have hE : M.eChk h n = 0 := M.eChk_yes hh.1 hh.2 h1 h2
        have g : ¬ (2 * M.p2 h - 1 < n) := by omega
        obtain ⟨hh1, hh2⟩ := hh
        go_enter Try.func61, Try.ntmps61
        go_wp2_with (first | (go_at_call 63; refine (isHeight_yes _ _ (by omega) (by omega)).mono ?_; rintro e w' ⟨rfl, rfl⟩) | (go_at_call 86; refine (lastNode_any _ _ (by omega) (by omega)).mono ?_; rintro e w' ⟨rfl, rfl⟩))
        go_ret
        exact ⟨M.ret_int hE.symm, rfl⟩
      · have hE : M.eChk h n = 1 := M.eChk_no (by omega)
        have g : 2 * M.p2 h - 1 < n := by omega
        obtain ⟨hh1, hh2⟩ := hh
        go_enter Try.func61, Try.ntmps61
        go_wp2_with (first | (go_at_call 63; refine (isHeight_yes _ _ (by omega) (by omega)).mono ?_; rintro e w' ⟨rfl, rfl⟩) | (go_at_call 86; refine (lastNode_any _ _ (by omega) (by omega)).mono ?_; rintro e w' ⟨rfl, rfl⟩))
        go_ret
        exact ⟨M.ret_int hE.symm, rfl⟩
    · have hE : M.eChk h n = 1 := M.eChk_no (by omega)
      obtain ⟨hh1, hh2⟩ := hh
      go_enter Try.func61, Try.ntmps61
      go_wp2_with (first | (go_at_call 63; refine (isHeight_yes _ _ (by omega) (by omega)).mono ?_; rintro e w' ⟨rfl, rfl⟩) | (go_at_call 86; refine (lastNode_any _ _ (by omega) (by omega)).mono ?_; rintro e w' ⟨rfl, rfl⟩))
      go_ret
      exact ⟨M.ret_int hE.symm, rfl⟩
  · have hE : M.eChk h n = 1 := M.eChk_no (by omega)
    go_enter Try.func61, Try.ntmps61
    go_wp2_with (first | (go_at_call 63; refine (isHeight_no _ _ (by omega)).mono ?_; rintro e w' ⟨rfl, rfl⟩))
    go_ret
    exact ⟨M.ret_int hE.symm, rfl⟩
end Go.Proofs.Ytjaikcnfepbpgaa
