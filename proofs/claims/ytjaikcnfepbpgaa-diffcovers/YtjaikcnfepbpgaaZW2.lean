/-
  What node.Leaf, Depth, Up, Child, Other and Above answer at every input. Conditions: the numbers fit their kinds.
-/
import Derived.Test.YtjaikcnfepbpgaaZW1
import Derived.Deep.QuietTactic
import Derived.BigQuiet
namespace Go.Proofs.Ytjaikcnfepbpgaa
open Go.RowKit

set_option maxRecDepth 100000 in
set_option maxHeartbeats 400000 in
theorem leaf_any (h i : Int) (w : World) (h0 : 0 ≤ i) (h1 : i ≤ 18446744073709551615) :
    Calls Try.prog 33 #[.int .i64 h, .int .u64 i] w fun e w' => e = .returned (.tuple #[.int .u64 (M.leafV h i), .int .i64 (M.leafE h i)]) ∧ w' = w := by
  by_cases hh : 1 ≤ h ∧ h ≤ 32
  · obtain ⟨hh1, hh2⟩ := hh
    have hp := M.p2_32 hh2
    by_cases hi : i < M.p2 h
    · have E : M.leafE h i = 0 := M.leafE_yes hh1 hh2 hi
      have V : M.leafV h i = M.p2 h + i := by unfold M.leafV; rw [if_pos E]
      go_enter Try.func33, Try.ntmps33
      go_wp2_with (first | (go_at_call 63; refine (isHeight_yes _ _ (by omega) (by omega)).mono ?_; rintro e w' ⟨rfl, rfl⟩) | (go_at_call 64; refine (firstLeaf_any _ _ (by omega) (by omega)).mono ?_; rintro e w' ⟨rfl, rfl⟩))
      go_ret2
      rw [E, V]; exact ⟨rfl, rfl⟩
    · have E : M.leafE h i = 4 := M.leafE_no hh1 hh2 hi
      have V : M.leafV h i = 0 := by unfold M.leafV; rw [E]; rfl
      go_enter Try.func33, Try.ntmps33
      go_wp2_with (first | (go_at_call 63; refine (isHeight_yes _ _ (by omega) (by omega)).mono ?_; rintro e w' ⟨rfl, rfl⟩) | (go_at_call 64; refine (firstLeaf_any _ _ (by omega) (by omega)).mono ?_; rintro e w' ⟨rfl, rfl⟩))
      go_ret2
      rw [E, V]; exact ⟨rfl, rfl⟩
  · have E : M.leafE h i = 1 := M.leafE_ht hh
    have V : M.leafV h i = 0 := by unfold M.leafV; rw [E]; rfl
    go_enter Try.func33, Try.ntmps33
    go_wp2_with (first | (go_at_call 63; refine (isHeight_no _ _ (by omega)).mono ?_; rintro e w' ⟨rfl, rfl⟩))
    go_ret2
    rw [E, V]; exact ⟨rfl, rfl⟩
set_option maxRecDepth 100000 in
set_option maxHeartbeats 400000 in
theorem child_any (h n s : Int) (w : World) (h0 : 0 ≤ n) (h1 : n ≤ 18446744073709551615) :
    Calls Try.prog 49 #[.int .i64 h, .int .u64 n, .int .i64 s] w fun e w' => e = .returned (.tuple #[.int .u64 (M.childV h n s), .int .i64 (M.childE h n s)]) ∧ w' = w := by
  by_cases hk : M.okB h n = true
  · have C : M.eChk h n = 0 := M.eChk_ok hk
    obtain ⟨k1, k2, k3, k4⟩ := M.ok_of hk
    have hp := M.p2_32 k2
    by_cases hs : s = 0 ∨ s = 1
    · by_cases hl : n < M.p2 h
      · have E : M.childE h n s = 0 := M.childE_yes hk hs hl
        have V : M.childV h n s = 2 * n + s := by unfold M.childV; rw [if_pos E]
        have g : ¬ (M.p2 h ≤ n) := by omega
        rcases hs with hs | hs <;> subst hs
        · go_enter Try.func49, Try.ntmps49
          go_wp2_with (first | (go_at_call 61; refine (check_any _ _ _ (by omega) (by omega)).mono ?_; rintro e w' ⟨rfl, rfl⟩) | (go_at_call 64; refine (firstLeaf_any _ _ (by omega) (by omega)).mono ?_; rintro e w' ⟨rfl, rfl⟩))
          go_ret2
          rw [E, V]; exact ⟨by simp, rfl⟩
        · go_enter Try.func49, Try.ntmps49
          go_wp2_with (first | (go_at_call 61; refine (check_any _ _ _ (by omega) (by omega)).mono ?_; rintro e w' ⟨rfl, rfl⟩) | (go_at_call 64; refine (firstLeaf_any _ _ (by omega) (by omega)).mono ?_; rintro e w' ⟨rfl, rfl⟩))
          go_ret2
          rw [E, V]; exact ⟨rfl, rfl⟩
      · have E : M.childE h n s = 4 := M.childE_no hk hs hl
        have V : M.childV h n s = 0 := by unfold M.childV; rw [E]; rfl
        have g : (M.p2 h ≤ n) := by omega
        rcases hs with hs | hs <;> subst hs
        · go_enter Try.func49, Try.ntmps49
          go_wp2_with (first | (go_at_call 61; refine (check_any _ _ _ (by omega) (by omega)).mono ?_; rintro e w' ⟨rfl, rfl⟩) | (go_at_call 64; refine (firstLeaf_any _ _ (by omega) (by omega)).mono ?_; rintro e w' ⟨rfl, rfl⟩))
          go_ret2
          rw [E, V]; exact ⟨rfl, rfl⟩
        · go_enter Try.func49, Try.ntmps49
          go_wp2_with (first | (go_at_call 61; refine (check_any _ _ _ (by omega) (by omega)).mono ?_; rintro e w' ⟨rfl, rfl⟩) | (go_at_call 64; refine (firstLeaf_any _ _ (by omega) (by omega)).mono ?_; rintro e w' ⟨rfl, rfl⟩))
          go_ret2
          rw [E, V]; exact ⟨rfl, rfl⟩
    · have E : M.childE h n s = 1 := M.childE_side hs
      have V : M.childV h n s = 0 := by unfold M.childV; rw [E]; rfl
      have g1 : (s != 0) = true := by rw [bne_iff_ne]; omega
      have g2 : (s != 1) = true := by rw [bne_iff_ne]; omega
      go_enter Try.func49, Try.ntmps49
      go_wp2_with (first | (go_at_call 61; refine (check_any _ _ _ (by omega) (by omega)).mono ?_; rintro e w' ⟨rfl, rfl⟩) | (go_at_call 64; refine (firstLeaf_any _ _ (by omega) (by omega)).mono ?_; rintro e w' ⟨rfl, rfl⟩))
      go_ret2
      rw [E, V]; exact ⟨rfl, rfl⟩
  · have C : M.eChk h n = 1 := M.eChk_nok hk
    have E : M.childE h n s = 1 := M.childE_nok hk
    have V : M.childV h n s = 0 := by unfold M.childV; rw [E]; rfl
    clear hk
    go_enter Try.func49, Try.ntmps49
    go_wp2_with (first | (go_at_call 61; refine (check_any _ _ _ (by omega) (by omega)).mono ?_; rintro e w' ⟨rfl, rfl⟩))
    go_ret2
    rw [E, V]; exact ⟨rfl, rfl⟩
set_option maxRecDepth 100000 in
set_option maxHeartbeats 400000 in
theorem checkBoth_any (h a b : Int) (w : World) (h0 : 0 ≤ a) (h1 : a ≤ 18446744073709551615) (h2 : 0 ≤ b) (h3 : b ≤ 18446744073709551615) :
    Calls Try.prog 79 #[.int .i64 h, .int .u64 a, .int .u64 b] w fun e w' => e = .returned (.int .i64 (M.eBoth h a b)) ∧ w' = w := by
  by_cases hk : M.okB h a = true
  · have C : M.eChk h a = 0 := M.eChk_ok hk
    have E : M.eBoth h a b = M.eChk h b := by unfold M.eBoth M.eChk; rw [hk]; simp
    go_enter Try.func79, Try.ntmps79
    go_wp2_with (first | (go_at_call 61; refine (check_any _ _ _ (by omega) (by omega)).mono ?_; rintro e w' ⟨rfl, rfl⟩))
    go_ret
    rw [E]; exact ⟨rfl, rfl⟩
  · have C : M.eChk h a = 1 := M.eChk_nok hk
    have E : M.eBoth h a b = 1 := by unfold M.eBoth; rw [Bool.eq_false_iff.2 hk]; rfl
    clear hk
    go_enter Try.func79, Try.ntmps79
    go_wp2_with (first | (go_at_call 61; refine (check_any _ _ _ (by omega) (by omega)).mono ?_; rintro e w' ⟨rfl, rfl⟩))
    go_ret
    rw [E]; exact ⟨rfl, rfl⟩
set_option maxRecDepth 100000 in
set_option maxHeartbeats 400000 in
theorem above_any (h a b : Int) (w : World) (h0 : 0 ≤ a) (h1 : a ≤ 18446744073709551615) (h2 : 0 ≤ b) (h3 : b ≤ 18446744073709551615) :
    Calls Try.prog 62 #[.int .i64 h, .int .u64 a, .int .u64 b] w fun e w' => e = .returned (.tuple #[.bool (M.abvV h a b), .int .i64 (M.eBoth h a b)]) ∧ w' = w := by
  by_cases hk : M.okB h a = true ∧ M.okB h b = true
  · have E : M.eBoth h a b = 0 := by unfold M.eBoth; rw [hk.1, hk.2]; rfl
    have V : M.abvV h a b = M.abv a b := by unfold M.abvV; rw [hk.1, hk.2]; rfl
    have k1 := (M.ok_of hk.1).2.2.1
    have k2 := (M.ok_of hk.2).2.2.1
    clear hk
    go_enter Try.func62, Try.ntmps62
    go_wp2_with (first | (go_at_call 79; refine (checkBoth_any _ _ _ _ (by omega) (by omega) (by omega) (by omega)).mono ?_; rintro e w' ⟨rfl, rfl⟩) | (go_at_call 87; refine (isAbove_any _ _ _ (by omega) (by omega) (by omega) (by omega)).mono ?_; rintro e w' ⟨rfl, rfl⟩))
    go_ret2
    rw [E, V]; exact ⟨rfl, rfl⟩
  · have E : M.eBoth h a b = 1 := M.eBoth_no hk
    have V : M.abvV h a b = false := by unfold M.abvV; cases hx : M.okB h a <;> simp_all
    clear hk
    go_enter Try.func62, Try.ntmps62
    go_wp2_with (first | (go_at_call 79; refine (checkBoth_any _ _ _ _ (by omega) (by omega) (by omega) (by omega)).mono ?_; rintro e w' ⟨rfl, rfl⟩) | (go_at_call 87; refine (isAbove_any _ _ _ (by omega) (by omega) (by omega) (by omega)).mono ?_; rintro e w' ⟨rfl, rfl⟩))
    go_ret2
    rw [E, V]; exact ⟨rfl, rfl⟩
end Go.Proofs.Ytjaikcnfepbpgaa
namespace Go.Proofs.Ytjaikcnfepbpgaa
open Go.RowKit

set_option maxRecDepth 100000 in
set_option maxHeartbeats 400000 in
theorem meet_any (h a b : Int) (w : World) (h0 : 0 ≤ a) (h1 : a ≤ 18446744073709551615) (h2 : 0 ≤ b) (h3 : b ≤ 18446744073709551615) :
    Calls Try.prog 50 #[.int .i64 h, .int .u64 a, .int .u64 b] w fun e w' => e = .returned (.tuple #[.int .u64 (M.meetV h a b), .int .i64 (M.eBoth h a b)]) ∧ w' = w := by
  by_cases hk : M.okB h a = true ∧ M.okB h b = true
  · have E : M.eBoth h a b = 0 := by unfold M.eBoth; rw [hk.1, hk.2]; rfl
    have V : M.meetV h a b = M.meet a b := by unfold M.meetV; rw [E]; rfl
    have k1 := (M.ok_of hk.1).2.2.1
    have k2 := (M.ok_of hk.2).2.2.1
    have d1 := M.dep_nonneg a
    have d2 := M.dep_nonneg b
    have b1 := M.ok_lt hk.1
    have b2 := M.ok_lt hk.2
    clear hk
    by_cases hm : M.dep a ≤ M.dep b
    · have e : M.meet a b = M.meet1 (M.up a (M.dep a)) (M.up b (M.dep a)) := by unfold M.meet; rw [Int.min_eq_left hm]
      have HV : Hid (M.meetV h a b = M.meet1 (M.up a (M.dep a)) (M.up b (M.dep a))) := V.trans e
      have u1 := M.up_bd k1 d1 (Int.le_refl _)
      have u2 := M.up_bd k2 d1 hm
      have p1 := M.p2_pos (M.dep a)
      have X := M.xr_eq (a := M.up a (M.dep a)) (b := M.up b (M.dep a)) (by omega) (by omega) (by omega) (by omega)
      have x1 := M.xr_bd (a := M.up a (M.dep a)) (b := M.up b (M.dep a)) (by omega) (by omega) (by omega) (by omega)
      have x2 := M.bl_bd x1.2
      have x3 : ((bitLen (M.xr (M.up a (M.dep a)) (M.up b (M.dep a))).toNat : Nat) : Int) = M.bl (M.xr (M.up a (M.dep a)) (M.up b (M.dep a))) := rfl
      obtain ⟨x4, x5⟩ := x1
      obtain ⟨x6, x7⟩ := x2
      obtain ⟨u3, u4, u5⟩ := u1
      obtain ⟨u6, u7, u8⟩ := u2
      clear V e
      go_enter Try.func50, Try.ntmps50
      go_wp2_with (first | (go_at_call 79; refine (checkBoth_any _ _ _ _ (by omega) (by omega) (by omega) (by omega)).mono ?_; rintro e w' ⟨rfl, rfl⟩) | (go_at_call 72; refine (depthOf_any _ _ (by omega) (by omega)).mono ?_; rintro e w' ⟨rfl, rfl⟩) | (go_at_call 80; refine (upTo_any _ _ _ (by omega) (by omega) (by omega) (by omega)).mono ?_; rintro e w' ⟨rfl, rfl⟩) | (go_at_call 81; refine (len64_any _ _ (by omega) (by omega)).mono ?_; rintro e w' ⟨rfl, rfl⟩))
      go_ret2
      rw [E, HV.out]
      exact ⟨rfl, rfl⟩
    · have hm' : M.dep b < M.dep a := by omega
      have e : M.meet a b = M.meet1 (M.up a (M.dep b)) (M.up b (M.dep b)) := by unfold M.meet; rw [Int.min_eq_right (by omega)]
      have HV : Hid (M.meetV h a b = M.meet1 (M.up a (M.dep b)) (M.up b (M.dep b))) := V.trans e
      have u1 := M.up_bd k1 d2 (by omega)
      have u2 := M.up_bd k2 d2 (Int.le_refl _)
      have p1 := M.p2_pos (M.dep b)
      have X := M.xr_eq (a := M.up a (M.dep b)) (b := M.up b (M.dep b)) (by omega) (by omega) (by omega) (by omega)
      have x1 := M.xr_bd (a := M.up a (M.dep b)) (b := M.up b (M.dep b)) (by omega) (by omega) (by omega) (by omega)
      have x2 := M.bl_bd x1.2
      have x3 : ((bitLen (M.xr (M.up a (M.dep b)) (M.up b (M.dep b))).toNat : Nat) : Int) = M.bl (M.xr (M.up a (M.dep b)) (M.up b (M.dep b))) := rfl
      obtain ⟨x4, x5⟩ := x1
      obtain ⟨x6, x7⟩ := x2
      obtain ⟨u3, u4, u5⟩ := u1
      obtain ⟨u6, u7, u8⟩ := u2
      clear V e hm
      go_enter Try.func50, Try.ntmps50
      go_wp2_with (first | (go_at_call 79; refine (checkBoth_any _ _ _ _ (by omega) (by omega) (by omega) (by omega)).mono ?_; rintro e w' ⟨rfl, rfl⟩) | (go_at_call 72; refine (depthOf_any _ _ (by omega) (by omega)).mono ?_; rintro e w' ⟨rfl, rfl⟩) | (go_at_call 80; refine (upTo_any _ _ _ (by omega) (by omega) (by omega) (by omega)).mono ?_; rintro e w' ⟨rfl, rfl⟩) | (go_at_call 81; refine (len64_any _ _ (by omega) (by omega)).mono ?_; rintro e w' ⟨rfl, rfl⟩))
      go_ret2
      rw [E, HV.out]
      exact ⟨rfl, rfl⟩
  · have E : M.eBoth h a b = 1 := M.eBoth_no hk
    have V : M.meetV h a b = 0 := by unfold M.meetV; rw [E]; rfl
    clear hk
    go_enter Try.func50, Try.ntmps50
    go_wp2_with (first | (go_at_call 79; refine (checkBoth_any _ _ _ _ (by omega) (by omega) (by omega) (by omega)).mono ?_; rintro e w' ⟨rfl, rfl⟩))
    go_ret2
    rw [E, V]; exact ⟨rfl, rfl⟩
set_option maxRecDepth 100000 in
set_option maxHeartbeats 400000 in
theorem leaves_any (h n : Int) (w : World) (h0 : 0 ≤ n) (h1 : n ≤ 18446744073709551615) :
    Calls Try.prog 41 #[.int .i64 h, .int .u64 n] w fun e w' => e = .returned (.tuple #[.agg #[.int .u64 (M.lowV h n), .int .u64 (M.highV h n)], .int .i64 (M.eChk h n)]) ∧ Below w.heap.size w w' := by
  by_cases hk : M.okB h n = true
  · have E : M.eChk h n = 0 := M.eChk_ok hk
    have V : M.lowV h n = M.low h n := by unfold M.lowV; rw [if_pos hk]
    have U : M.highV h n = M.high h n := by unfold M.highV; rw [if_pos hk]
    obtain ⟨k1, k2, k3, k4⟩ := M.ok_of hk
    have hd := M.dep_le_of k3 (by omega) k4
    have hd0 := M.dep_nonneg n
    obtain ⟨l1, l2, l3, l4, l5⟩ := M.low_facts hk
    have l6 := M.p2_pos (h - M.dep n)
    have l7 := M.p2_32 k2
    have e1 : M.low h n + M.p2 h - M.p2 h = M.low h n := by omega
    go_enter Try.func41, Try.ntmps41
    go_wp2_with (first | (go_at_call 61; refine (check_any _ _ _ (by omega) (by omega)).mono ?_; rintro e w' ⟨rfl, rfl⟩) | (go_at_call 72; refine (depthOf_any _ _ (by omega) (by omega)).mono ?_; rintro e w' ⟨rfl, rfl⟩))
    go_quiet ((go_at_call 64; exact Calls.quiet_of_same (firstLeaf_any _ _ (by omega) (by omega))))
    go_wp2
    refine bodyPost_ret (v := .tuple #[.agg #[.int .u64 (M.low h n), .int .u64 (M.high h n)], .int .i64 0]) ?_ rfl ⟨by rw [E, V, U], ?_⟩
    · simp [results, Try.results41, go_sem]
      rfl
    · exact Below.setCell (Below.setCell (below_drewN ((Below.refl _ _).alloc (Nat.le_refl _) _) _) (Nat.le_refl _) _) (Nat.le_refl _) _
  · have E : M.eChk h n = 1 := M.eChk_nok hk
    have V : M.lowV h n = 0 := by unfold M.lowV; rw [if_neg hk]
    have U : M.highV h n = 0 := by unfold M.highV; rw [if_neg hk]
    clear hk
    go_enter Try.func41, Try.ntmps41
    go_wp2_with (first | (go_at_call 61; refine (check_any _ _ _ (by omega) (by omega)).mono ?_; rintro e w' ⟨rfl, rfl⟩) | (go_at_call 72; refine (depthOf_any _ _ (by omega) (by omega)).mono ?_; rintro e w' ⟨rfl, rfl⟩))
    refine bodyPost_ret (v := .tuple #[.agg #[.int .u64 0, .int .u64 0], .int .i64 1]) (by simp [results, Try.results41, go_sem]) rfl ⟨by rw [E, V, U], ?_⟩
    exact (Below.refl _ _).alloc (Nat.le_refl _) _
end Go.Proofs.Ytjaikcnfepbpgaa
namespace Go.Proofs.Ytjaikcnfepbpgaa
open Go.RowKit
theorem live1 : M.leafV 3 5 = 13 := by decide +kernel
theorem live2 : M.leafE 3 5 = 0 := by decide +kernel
theorem live3 : M.meetV 3 13 12 = 6 := by decide +kernel
theorem live4 : M.eBoth 3 13 12 = 0 := by decide +kernel
end Go.Proofs.Ytjaikcnfepbpgaa
