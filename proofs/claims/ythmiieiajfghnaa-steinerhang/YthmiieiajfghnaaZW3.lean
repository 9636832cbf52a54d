/-
  What node.Meet and node.Leaves answer at every input. Conditions: the numbers fit their kinds.
-/
import Derived.Test.YthmiieiajfghnaaZW2
import Derived.Deep.QuietTactic
import Derived.BigQuiet
namespace Go.Proofs.Ythmiieiajfghnaa
open Go.RowKit

set_option maxHeartbeats 400000 in
theorem meet_any (h a b : Int) (w : World) (h0 : 0 ≤ a) (h1 : a ≤ 18446744073709551615) (h2 : 0 ≤ b) (h3 : b ≤ 18446744073709551615) :
    Calls Try.prog 35 #[.int .i64 h, .int .u64 a, .int .u64 b] w fun e w' => e = .returned (.tuple #[.int .u64 (M.meetV h a b), .int .i64 (M.eBoth h a b)]) ∧ w' = w := by
  by_cases hk : M.okB h a = true ∧ M.okB h b = true
  · have E : M.eBoth h a b = 0 := by unfold M.eBoth; rw [hk.1, hk.2]; rfl
    have V : M.meetV h a b = M.meet a b := by unfold M.meetV; rw [E]; rfl
    have k1 := (M.ok_of hk.1).2.2.1
    have k2 := (M.ok_of hk.2).2.2.1
    have d1 := M.dep_nonneg a
    have d2 := M.dep_nonneg b
    have b1 := M.ok_lt hk.1
    have b2 := M.ok_lt hk.2
    clear hk
    by_cases hm : M.dep a ≤ M.dep b
    · have e : M.meet a b = M.meet1 (M.up a (M.dep a)) (M.up b (M.dep a)) := by unfold M.meet; rw [Int.min_eq_left hm]
      have HV : Hid (M.meetV h a b = M.meet1 (M.up a (M.dep a)) (M.up b (M.dep a))) := V.trans e
      have u1 := M.up_bd k1 d1 (Int.le_refl _)
      have u2 := M.up_bd k2 d1 hm
      have p1 := M.p2_pos (M.dep a)
      have X := M.xr_eq (a := M.up a (M.dep a)) (b := M.up b (M.dep a)) (by omega) (by omega) (by omega) (by omega)
      have x1 := M.xr_bd (a := M.up a (M.dep a)) (b := M.up b (M.dep a)) (by omega) (by omega) (by omega) (by omega)
      have x2 := M.bl_bd x1.2
      have x3 : ((bitLen (M.xr (M.up a (M.dep a)) (M.up b (M.dep a))).toNat : Nat) : Int) = M.bl (M.xr (M.up a (M.dep a)) (M.up b (M.dep a))) := rfl
      obtain ⟨x4, x5⟩ := x1
      obtain ⟨x6, x7⟩ := x2
      obtain ⟨u3, u4, u5⟩ := u1
      obtain ⟨u6, u7, u8⟩ := u2
      clear V e
      go_enter Try.func35, Try.ntmps35
      go_wp2_with (first | (go_at_call 45; refine (checkBoth_any _ _ _ _ (by omega) (by omega) (by omega) (by omega)).mono ?_; rintro e w' ⟨rfl, rfl⟩) | (go_at_call 47; refine (depthOf_any _ _ (by omega) (by omega)).mono ?_; rintro e w' ⟨rfl, rfl⟩) | (go_at_call 56; refine (upTo_any _ _ _ (by omega) (by omega) (by omega) (by omega)).mono ?_; rintro e w' ⟨rfl, rfl⟩) | (go_at_call 57; refine (len64_any _ _ (by omega) (by omega)).mono ?_; rintro e w' ⟨rfl, rfl⟩))
      go_ret2
      rw [E, HV.out]
      exact ⟨rfl, rfl⟩
    · have hm' : M.dep b < M.dep a := by omega
      have e : M.meet a b = M.meet1 (M.up a (M.dep b)) (M.up b (M.dep b)) := by unfold M.meet; rw [Int.min_eq_right (by omega)]
      have HV : Hid (M.meetV h a b = M.meet1 (M.up a (M.dep b)) (M.up b (M.dep b))) := V.trans e
      have u1 := M.up_bd k1 d2 (by omega)
      have u2 := M.up_bd k2 d2 (Int.le_refl _)
      have p1 := M.p2_pos (M.dep b)
      have X := M.xr_eq (a := M.up a (M.dep b)) (b := M.up b (M.dep b)) (by omega) (by omega) (by omega) (by omega)
      have x1 := M.xr_bd (a := M.up a (M.dep b)) (b := M.up b (M.dep b)) (by omega) (by omega) (by omega) (by omega)
      have x2 := M.bl_bd x1.2
      have x3 : ((bitLen (M.xr (M.up a (M.dep b)) (M.up b (M.dep b))).toNat : Nat) : Int) = M.bl (M.xr (M.up a (M.dep b)) (M.up b (M.dep b))) := rfl
      obtain ⟨x4, x5⟩ := x1
      obtain ⟨x6, x7⟩ := x2
      obtain ⟨u3, u4, u5⟩ := u1
      obtain ⟨u6, u7, u8⟩ := u2
      clear V e hm
      go_enter Try.func35, Try.ntmps35
      go_wp2_with (first | (go_at_call 45; refine (checkBoth_any _ _ _ _ (by omega) (by omega) (by omega) (by omega)).mono ?_; rintro e w' ⟨rfl, rfl⟩) | (go_at_call 47; refine (depthOf_any _ _ (by omega) (by omega)).mono ?_; rintro e w' ⟨rfl, rfl⟩) | (go_at_call 56; refine (upTo_any _ _ _ (by omega) (by omega) (by omega) (by omega)).mono ?_; rintro e w' ⟨rfl, rfl⟩) | (go_at_call 57; refine (len64_any _ _ (by omega) (by omega)).mono ?_; rintro e w' ⟨rfl, rfl⟩))
      go_ret2
      rw [E, HV.out]
      exact ⟨rfl, rfl⟩
  · have E : M.eBoth h a b = 1 := M.eBoth_no hk
    have V : M.meetV h a b = 0 := by unfold M.meetV; rw [E]; rfl
    clear hk
    go_enter Try.func35, Try.ntmps35
    go_wp2_with (first | (go_at_call 45; refine (checkBoth_any _ _ _ _ (by omega) (by omega) (by omega) (by omega)).mono ?_; rintro e w' ⟨rfl, rfl⟩))
    go_ret2
    rw [E, V]; exact ⟨rfl, rfl⟩
set_option maxHeartbeats 400000 in
theorem leaves_any (h n : Int) (w : World) (h0 : 0 ≤ n) (h1 : n ≤ 18446744073709551615) :
    Calls Try.prog 26 #[.int .i64 h, .int .u64 n] w fun e w' => e = .returned (.tuple #[.agg #[.int .u64 (M.lowV h n), .int .u64 (M.highV h n)], .int .i64 (M.eChk h n)]) ∧ Below w.heap.size w w' := by
  by_cases hk : M.okB h n = true
  · have E : M.eChk h n = 0 := M.eChk_ok hk
    have V : M.lowV h n = M.low h n := by unfold M.lowV; rw [if_pos hk]
    have U : M.highV h n = M.high h n := by unfold M.highV; rw [if_pos hk]
    obtain ⟨k1, k2, k3, k4⟩ := M.ok_of hk
    have hd := M.dep_le_of k3 (by omega) k4
    have hd0 := M.dep_nonneg n
    obtain ⟨l1, l2, l3, l4, l5⟩ := M.low_facts hk
    have l6 := M.p2_pos (h - M.dep n)
    have l7 := M.p2_32 k2
    have e1 : M.low h n + M.p2 h - M.p2 h = M.low h n := by omega
    go_enter Try.func26, Try.ntmps26
    go_wp2_with (first | (go_at_call 43; refine (check_any _ _ _ (by omega) (by omega)).mono ?_; rintro e w' ⟨rfl, rfl⟩) | (go_at_call 47; refine (depthOf_any _ _ (by omega) (by omega)).mono ?_; rintro e w' ⟨rfl, rfl⟩))
    go_quiet ((go_at_call 44; exact Calls.quiet_of_same (firstLeaf_any _ _ (by omega) (by omega))))
    go_wp2
    refine bodyPost_ret (v := .tuple #[.agg #[.int .u64 (M.low h n), .int .u64 (M.high h n)], .int .i64 0]) ?_ rfl ⟨by rw [E, V, U], ?_⟩
    · simp [results, Try.results26, go_sem]
      rfl
    · exact Below.setCell (Below.setCell (below_drewN ((Below.refl _ _).alloc (Nat.le_refl _) _) _) (Nat.le_refl _) _) (Nat.le_refl _) _
  · have E : M.eChk h n = 1 := M.eChk_nok hk
    have V : M.lowV h n = 0 := by unfold M.lowV; rw [if_neg hk]
    have U : M.highV h n = 0 := by unfold M.highV; rw [if_neg hk]
    clear hk
    go_enter Try.func26, Try.ntmps26
    go_wp2_with (first | (go_at_call 43; refine (check_any _ _ _ (by omega) (by omega)).mono ?_; rintro e w' ⟨rfl, rfl⟩) | (go_at_call 47; refine (depthOf_any _ _ (by omega) (by omega)).mono ?_; rintro e w' ⟨rfl, rfl⟩))
    refine bodyPost_ret (v := .tuple #[.agg #[.int .u64 0, .int .u64 0], .int .i64 1]) (by simp [results, Try.results26, go_sem]) rfl ⟨by rw [E, V, U], ?_⟩
    exact (Below.refl _ _).alloc (Nat.le_refl _) _
end Go.Proofs.Ythmiieiajfghnaa
