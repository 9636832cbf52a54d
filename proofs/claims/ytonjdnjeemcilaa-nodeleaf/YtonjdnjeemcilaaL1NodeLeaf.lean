/-
  The law NodeLeaf returns true at every input. Conditions: the numbers fit their kinds.
-/
import Derived.Test.YtonjdnjeemcilaaW4
import Derived.Test.YtonjdnjeemcilaaM2
namespace Go.Proofs.Ytonjdnjeemcilaa
open Go.RowKit
set_option maxHeartbeats 400000 in
theorem nodeLeaf_walk (h i d : Int) (w : World) (h0 : 0 ≤ i) (h1 : i ≤ 18446744073709551615) :
    Calls Try.prog 9 #[.int .i64 h, .int .u64 i, .int .i64 d] w fun e w' => e = .returned (.bool true) ∧ Below w.heap.size w w' := by
  by_cases hE : M.leafE h i = 0
  · obtain ⟨V, hk, hd, hl, hh⟩ := M.leaf_facts h0 hE
    generalize M.p2 h + i = n at *
    have hn1 := (M.ok_of hk).2.2.1
    have hn2 := M.ok_lt hk
    have E1 : M.eChk h n = 0 := M.eChk_ok hk
    have L1 : M.lowV h n = i := (M.lowV_ok hk).trans hl
    have H1 : M.highV h n = i := (M.highV_ok hk).trans hh
    have D1 : M.depV h n = h := (M.depV_ok hk).trans hd
    by_cases hU : M.upE h n d = 0
    · obtain ⟨_, ud0, ud1, U⟩ := M.upE_zero hU
      have hk2 := M.ok_up hk ud0 ud1
      have hb := (M.within_iff hk2 hk).2 (M.abv_up hn1 ud0 ud1)
      have hA := M.abv_up hn1 ud0 ud1
      generalize M.up n d = a at *
      have ha1 := (M.ok_of hk2).2.2.1
      have ha2 := M.ok_lt hk2
      have E2 : M.eChk h a = 0 := M.eChk_ok hk2
      have L2 : M.lowV h a ≤ i := by rw [M.lowV_ok hk2]; omega
      have H2 : i ≤ M.highV h a := by rw [M.highV_ok hk2]; omega
      have E3 : M.eBoth h a n = 0 := M.eBoth_ok hk2 hk
      have A3 : M.abvV h a n = true := (M.abvV_ok hk2 hk).trans hA
      clear hb hA hk2 hd hl hh hk
      go_enter Try.func9, Try.ntmps9
      go_wp2_with (first | (go_at_call 10; refine (live_any _).mono ?_; rintro e w' ⟨rfl, rfl⟩) | (go_at_call 11; refine (leaf_any _ _ _ (by omega) (by omega)).mono ?_; rintro e w' ⟨rfl, rfl⟩) | (go_at_call 13; refine (depth_any _ _ _ (by omega) (by omega)).mono ?_; rintro e w' ⟨rfl, rfl⟩) | (go_at_call 15; refine (up_any _ _ _ _ (by omega) (by omega)).mono ?_; rintro e w' ⟨rfl, rfl⟩) | (go_at_call 25; refine (above_any _ _ _ _ (by omega) (by omega) (by omega) (by omega)).mono ?_; rintro e w' ⟨rfl, rfl⟩) | (go_at_call 17; refine (leaves_any _ _ _ (by omega) (by omega)).mono ?_; rintro e w1 ⟨rfl, hb1⟩; have hs1 := hb1.size; try simp at hs1))
      go_ret
      refine ⟨rfl, ?_⟩
      refine Below.alloc ?_ ?_ _
      · refine Below.trans ?_ (Below.mono (by assumption) ?_)
        · refine Below.alloc (by assumption) (by assumption) _
        · simp; omega
      · omega
    · obtain ⟨U4, Ud⟩ := M.upE_bad hk hU
      rw [hd] at Ud
      replace Ud : d < 0 ∨ (0 ≤ d ∧ h < d) := by omega
      clear hU hk hl hh hd
      rcases Ud with Ud | ⟨Ud0, Ud⟩
      all_goals
        go_enter Try.func9, Try.ntmps9
        go_wp2_with (first | (go_at_call 10; refine (live_any _).mono ?_; rintro e w' ⟨rfl, rfl⟩) | (go_at_call 11; refine (leaf_any _ _ _ (by omega) (by omega)).mono ?_; rintro e w' ⟨rfl, rfl⟩) | (go_at_call 13; refine (depth_any _ _ _ (by omega) (by omega)).mono ?_; rintro e w' ⟨rfl, rfl⟩) | (go_at_call 15; refine (up_any _ _ _ _ (by omega) (by omega)).mono ?_; rintro e w' ⟨rfl, rfl⟩) | (go_at_call 25; refine (above_any _ _ _ _ (by omega) (by omega) (by omega) (by omega)).mono ?_; rintro e w' ⟨rfl, rfl⟩) | (go_at_call 17; refine (leaves_any _ _ _ (by omega) (by omega)).mono ?_; rintro e w1 ⟨rfl, hb1⟩; have hs1 := hb1.size; try simp at hs1))
        go_ret
        refine ⟨rfl, ?_⟩
        refine Below.alloc (by assumption) (by assumption) _
  · have V : M.leafV h i = 0 := by unfold M.leafV; rw [if_neg hE]
    have hE' : (M.leafE h i != 0) = true := by rw [bne_iff_ne]; exact hE
    go_enter Try.func9, Try.ntmps9
    go_wp2_with (first | (go_at_call 10; refine (live_any _).mono ?_; rintro e w' ⟨rfl, rfl⟩) | (go_at_call 11; refine (leaf_any _ _ _ (by omega) (by omega)).mono ?_; rintro e w' ⟨rfl, rfl⟩))
    go_ret
    exact ⟨rfl, Below.refl _ _⟩
end Go.Proofs.Ytonjdnjeemcilaa
