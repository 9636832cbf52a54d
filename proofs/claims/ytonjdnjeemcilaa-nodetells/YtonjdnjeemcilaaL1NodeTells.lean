/-
  The law NodeTells returns true at every input. Conditions: the numbers fit their kinds.
-/
import Derived.Test.YtonjdnjeemcilaaR6
import Derived.Deep.RegionWith
namespace Go.Proofs.Ytonjdnjeemcilaa
open Go.RowKit
set_option maxRecDepth 100000 in
set_option maxHeartbeats 1000000 in
theorem nodeTells_walk (h n d : Int) (w : World) (h0 : 0 ≤ n) (h1 : n ≤ 18446744073709551615) :
    Calls Try.prog 3 #[.int .i64 h, .int .u64 n, .int .i64 d] w fun e w' => e = .returned (.bool true) ∧ Below w.heap.size w w' := by
  go_enter Try.func3, Try.ntmps3
  go_wp2_with (first | (go_at_call 10; refine (live_any _).mono ?_; rintro e w' ⟨rfl, hw⟩; subst w') | (go_at_call 11; refine (leaf_any _ _ _ (by omega) (by omega)).mono ?_; rintro e w' ⟨rfl, hw⟩; subst w') | (go_at_call 12; refine (rleaf_any _ _ _ (by omega) (by omega)).mono ?_; rintro e w' ⟨rfl, hw⟩; subst w') | (go_at_call 13; refine (depth_any _ _ _ (by omega) (by omega)).mono ?_; rintro e w' ⟨rfl, hw⟩; subst w') | (go_at_call 14; refine (rdepth_any _ _ _ (by omega) (by omega)).mono ?_; rintro e w1 ⟨rfl, hb1⟩) | (go_at_call 15; refine (up_any _ _ _ _ (by omega) (by omega)).mono ?_; rintro e w' ⟨rfl, hw⟩; subst w') | (go_at_call 16; refine (rup_any _ _ _ _ (by omega) (by omega)).mono ?_; rintro e w2 ⟨rfl, hb2⟩) | (go_at_call 17; refine (leaves_any _ _ _ (by omega) (by omega)).mono ?_; rintro e w3 ⟨rfl, hb3⟩) | (go_at_call 18; refine (rleaves_any _ _ _ (by omega) (by omega)).mono ?_; rintro e w4 ⟨rfl, hb4⟩; have hs4 := below_lt hb4; obtain ⟨hc4, hf4⟩ := bcell hb4) | (go_at_call 19; refine (check_any _ _ _ (by omega) (by omega)).mono ?_; rintro e w' ⟨rfl, hw⟩; subst w') | (go_at_call 20; refine (rcheck_any _ _ _ (by omega) (by omega)).mono ?_; rintro e w' ⟨rfl, hw⟩; subst w'))
  go_ret
  refine ⟨rfl, below_two (below_trans (below_trans hb1 hb2) hb3) hb4⟩
end Go.Proofs.Ytonjdnjeemcilaa
