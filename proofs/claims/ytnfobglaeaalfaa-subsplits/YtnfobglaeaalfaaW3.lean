/-
  What node.Meet and node.Leaves answer at every input. Conditions: the numbers fit their kinds.
-/
import Derived.Test.YtnfobglaeaalfaaW2
import Derived.Deep.QuietTactic
import Derived.BigQuiet
namespace Go.Proofs.Ytnfobglaeaalfaa
open Go.RowKit

set_option maxHeartbeats 400000 in
theorem leaves_any (h n : Int) (w : World) (h0 : 0 ≤ n) (h1 : n ≤ 18446744073709551615) :
    Calls Try.prog 30 #[.int .i64 h, .int .u64 n] w fun e w' => e = .returned (.tuple #[.agg #[.int .u64 (M.lowV h n), .int .u64 (M.highV h n)], .int .i64 (M.eChk h n)]) ∧ Below w.heap.size w w' := by
  by_cases hk : M.okB h n = true
  · have E : M.eChk h n = 0 := M.eChk_ok hk
    have V : M.lowV h n = M.low h n := by unfold M.lowV; rw [if_pos hk]
    have U : M.highV h n = M.high h n := by unfold M.highV; rw [if_pos hk]
    obtain ⟨k1, k2, k3, k4⟩ := M.ok_of hk
    have hd := M.dep_le_of k3 (by omega) k4
    have hd0 := M.dep_nonneg n
    obtain ⟨l1, l2, l3, l4, l5⟩ := M.low_facts hk
    have l6 := M.p2_pos (h - M.dep n)
    have l7 := M.p2_32 k2
    have e1 : M.low h n + M.p2 h - M.p2 h = M.low h n := by omega
    go_enter Try.func30, Try.ntmps30
    go_wp2_with (first | (go_at_call 38; refine (check_any _ _ _ (by omega) (by omega)).mono ?_; rintro e w' ⟨rfl, rfl⟩) | (go_at_call 48; refine (depthOf_any _ _ (by omega) (by omega)).mono ?_; rintro e w' ⟨rfl, rfl⟩))
    go_quiet ((go_at_call 49; exact Calls.quiet_of_same (firstLeaf_any _ _ (by omega) (by omega))))
    go_wp2
    refine bodyPost_ret (v := .tuple #[.agg #[.int .u64 (M.low h n), .int .u64 (M.high h n)], .int .i64 0]) ?_ rfl ⟨by rw [E, V, U], ?_⟩
    · simp [results, Try.results30, go_sem]
      rfl
    · exact Below.setCell (Below.setCell (below_drewN ((Below.refl _ _).alloc (Nat.le_refl _) _) _) (Nat.le_refl _) _) (Nat.le_refl _) _
  · have E : M.eChk h n = 1 := M.eChk_nok hk
    have V : M.lowV h n = 0 := by unfold M.lowV; rw [if_neg hk]
    have U : M.highV h n = 0 := by unfold M.highV; rw [if_neg hk]
    clear hk
    go_enter Try.func30, Try.ntmps30
    go_wp2_with (first | (go_at_call 38; refine (check_any _ _ _ (by omega) (by omega)).mono ?_; rintro e w' ⟨rfl, rfl⟩) | (go_at_call 48; refine (depthOf_any _ _ (by omega) (by omega)).mono ?_; rintro e w' ⟨rfl, rfl⟩))
    refine bodyPost_ret (v := .tuple #[.agg #[.int .u64 0, .int .u64 0], .int .i64 1]) (by simp [results, Try.results30, go_sem]) rfl ⟨by rw [E, V, U], ?_⟩
    exact (Below.refl _ _).alloc (Nat.le_refl _) _
end Go.Proofs.Ytnfobglaeaalfaa
