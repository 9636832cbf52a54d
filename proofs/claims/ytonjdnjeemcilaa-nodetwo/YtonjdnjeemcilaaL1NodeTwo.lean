/-
  The law NodeTwo returns true at every input. Conditions: the numbers fit their kinds.
-/
import Derived.Test.YtonjdnjeemcilaaR6
import Derived.Deep.RegionWith
namespace Go.Proofs.Ytonjdnjeemcilaa
open Go.RowKit
set_option maxRecDepth 100000 in
set_option maxHeartbeats 1000000 in
theorem nodeTwo_walk (h a b s : Int) (w : World) (h0 : 0 ≤ a) (h1 : a ≤ 18446744073709551615) (h2 : 0 ≤ b) (h3 : b ≤ 18446744073709551615) :
    Calls Try.prog 4 #[.int .i64 h, .int .u64 a, .int .u64 b, .int .i64 s] w fun e w' => e = .returned (.bool true) ∧ Below w.heap.size w w' := by
  by_cases hp : M.pathE h a b = 0
  · obtain ⟨hka, hkb, hab⟩ := M.pathE_zero hp
    have d1 := M.dep_nonneg a
    have d3 := (M.ok_dep hkb).2
    have d4 := (M.ok_of hkb).2.1
    have hlen : (M.pathL a b).length ≤ 1000 := by rw [M.pathL_length]; omega
    have HP : Hid (∀ w, _) := fun w => path_yes h a b w hka hkb hab
    have HR : Hid (∀ w, _) := fun w => rpath_yes h a b w hka hkb hab
    clear hka hkb hab hp
    go_enter Try.func4, Try.ntmps4
    go_wp2_with (first | (go_at_call 10; refine (live_any _).mono ?_; rintro e w' ⟨rfl, hw⟩; subst w') | (go_at_call 21; refine (child_any _ _ _ _ (by omega) (by omega)).mono ?_; rintro e w' ⟨rfl, hw⟩; subst w') | (go_at_call 22; refine (rchild_any _ _ _ _ (by omega) (by omega)).mono ?_; rintro e w' ⟨rfl, hw⟩; subst w') | (go_at_call 23; refine (other_any _ _ _ (by omega) (by omega)).mono ?_; rintro e w' ⟨rfl, hw⟩; subst w') | (go_at_call 24; refine (rother_any _ _ _ (by omega) (by omega)).mono ?_; rintro e w' ⟨rfl, hw⟩; subst w') | (go_at_call 25; refine (above_any _ _ _ _ (by omega) (by omega) (by omega) (by omega)).mono ?_; rintro e w' ⟨rfl, hw⟩; subst w') | (go_at_call 26; refine (rabove_any _ _ _ _ (by omega) (by omega) (by omega) (by omega)).mono ?_; rintro e w1 ⟨rfl, hb1⟩) | (go_at_call 27; refine (meet_any _ _ _ _ (by omega) (by omega) (by omega) (by omega)).mono ?_; rintro e w' ⟨rfl, hw⟩; subst w') | (go_at_call 28; refine (rmeet_any _ _ _ _ (by omega) (by omega) (by omega) (by omega)).mono ?_; rintro e w2 ⟨rfl, hb2⟩) | (go_at_call 29; refine (HP.out _).mono ?_; rintro e w3 ⟨rfl, ho3, hb3⟩) | (go_at_call 30; refine (HR.out _).mono ?_; rintro e w4 ⟨v, rfl, ho4, hb4⟩) | (go_at_call 31; refine (sameInts_yes (M.pathL a b) _ _ _ _ _ _ hlen (own_kept ho3 hb4) ho4).mono ?_; rintro e w5 ⟨rfl, hb5⟩))
    go_ret
    exact ⟨rfl, below_trans (below_trans (below_trans (below_trans hb1 hb2) hb3) hb4) hb5⟩
  · go_enter Try.func4, Try.ntmps4
    go_wp2_with (first | (go_at_call 10; refine (live_any _).mono ?_; rintro e w' ⟨rfl, hw⟩; subst w') | (go_at_call 21; refine (child_any _ _ _ _ (by omega) (by omega)).mono ?_; rintro e w' ⟨rfl, hw⟩; subst w') | (go_at_call 22; refine (rchild_any _ _ _ _ (by omega) (by omega)).mono ?_; rintro e w' ⟨rfl, hw⟩; subst w') | (go_at_call 23; refine (other_any _ _ _ (by omega) (by omega)).mono ?_; rintro e w' ⟨rfl, hw⟩; subst w') | (go_at_call 24; refine (rother_any _ _ _ (by omega) (by omega)).mono ?_; rintro e w' ⟨rfl, hw⟩; subst w') | (go_at_call 25; refine (above_any _ _ _ _ (by omega) (by omega) (by omega) (by omega)).mono ?_; rintro e w' ⟨rfl, hw⟩; subst w') | (go_at_call 26; refine (rabove_any _ _ _ _ (by omega) (by omega) (by omega) (by omega)).mono ?_; rintro e w1 ⟨rfl, hb1⟩) | (go_at_call 27; refine (meet_any _ _ _ _ (by omega) (by omega) (by omega) (by omega)).mono ?_; rintro e w' ⟨rfl, hw⟩; subst w') | (go_at_call 28; refine (rmeet_any _ _ _ _ (by omega) (by omega) (by omega) (by omega)).mono ?_; rintro e w2 ⟨rfl, hb2⟩) | (go_at_call 29; refine (path_no _ _ _ _ h0 h1 h2 h3 hp).mono ?_; rintro e w' ⟨rfl, hw⟩; subst w') | (go_at_call 30; refine (rpath_no _ _ _ _ h0 h1 h2 h3 hp).mono ?_; rintro e w4 ⟨rfl, hb4⟩) | (go_at_call 31; refine (sameInts_yes [] _ _ 0 0 0 _ (by omega) (World.ownsRow_nil _ _ _ _) (World.ownsRow_nil _ _ _ _)).mono ?_; rintro e w5 ⟨rfl, hb5⟩))
    go_ret
    exact ⟨rfl, below_trans (below_trans (below_trans hb1 hb2) hb4) hb5⟩
end Go.Proofs.Ytonjdnjeemcilaa
