/-
  The chapter's own example answers true. No condition.
-/
import Derived.Test.YtonjdnjeemcilaaW3
namespace Go.Proofs.Ytonjdnjeemcilaa
open Go.RowKit
theorem live1 : M.leafV 3 5 = 13 := by decide +kernel
theorem live2 : M.leafE 3 5 = 0 := by decide +kernel
theorem live3 : M.meetV 3 13 12 = 6 := by decide +kernel
theorem live4 : M.eBoth 3 13 12 = 0 := by decide +kernel
set_option maxHeartbeats 400000 in
theorem live_any (w : World) :
    Calls Try.prog 10 #[] w fun e w' => e = .returned (.bool true) ∧ w' = w := by
  have h1 := live1
  have h2 := live2
  have h3 := live3
  have h4 := live4
  go_enter Try.func10, Try.ntmps10
  go_wp2_with (first | (go_at_call 11; refine (leaf_any _ _ _ (by omega) (by omega)).mono ?_; rintro e w' ⟨rfl, rfl⟩) | (go_at_call 27; refine (meet_any _ _ _ _ (by omega) (by omega) (by omega) (by omega)).mono ?_; rintro e w' ⟨rfl, rfl⟩))
  go_ret
  exact ⟨rfl, rfl⟩
end Go.Proofs.Ytonjdnjeemcilaa
