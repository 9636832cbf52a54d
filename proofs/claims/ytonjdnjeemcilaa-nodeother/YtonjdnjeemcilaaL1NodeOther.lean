/-
  The law NodeOther returns true at every input. Conditions: the numbers fit their kinds.
-/
import Derived.Test.YtonjdnjeemcilaaW4
import Derived.Test.YtonjdnjeemcilaaM3
import Derived.Test.YtonjdnjeemcilaaBel
import Derived.Deep.RegionWith
namespace Go.Proofs.Ytonjdnjeemcilaa
open Go.RowKit
set_option maxRecDepth 100000 in
set_option maxHeartbeats 1000000 in
theorem nodeOther_walk (h n : Int) (w : World) (h0 : 0 ≤ n) (h1 : n ≤ 18446744073709551615) :
    Calls Try.prog 8 #[.int .i64 h, .int .u64 n] w fun e w' => e = .returned (.bool true) ∧ Below w.heap.size w w' := by
  by_cases hE : M.othE h n = 0
  · have hkn : M.okB h n = true ∧ n ≠ 1 := M.othE_zero hE
    obtain ⟨hk, hn1⟩ := hkn
    have hn0 := (M.ok_of hk).2.2.1
    obtain ⟨o1, o2, o3, o4, o5, o6⟩ := M.oth_facts (show 2 ≤ n by omega)
    have hko := M.ok_oth hk hn1
    have V1 : M.othV h n = M.oth n := by unfold M.othV; rw [if_pos hE]
    have hmo := M.meet_oth (show 2 ≤ n by omega)
    have hE2 : M.othE h (M.oth n) = 0 := M.othE_ok hko (by omega)
    have V2 : M.othV h (M.oth n) = n := by unfold M.othV; rw [if_pos hE2]; exact o3
    have E1 := M.eChk_ok hk
    have E2 := M.eChk_ok hko
    have E3 := M.eBoth_ok hk hko
    have M1 := (M.meetV_ok hk hko).trans hmo
    have D1 := M.depV_ok hk
    have D2 := (M.depV_ok hko).trans o5
    have E4 : M.upE h n (M.dep n - 1) = 0 := by unfold M.upE; rw [if_pos hk, if_pos (by omega)]
    have U1 : M.upV h n (M.dep n - 1) = M.up n (M.dep n - 1) := by unfold M.upV; rw [if_pos E4]
    have L1 := M.lowV_ok hk
    have L2 := M.lowV_ok hko
    have H1 := M.highV_ok hk
    have H2 := M.highV_ok hko
    have B1 := M.low_bd hk
    have B2 := M.low_bd hko
    have X1 := M.ok_lt hk
    have X2 := M.ok_lt hko
    have X3 := M.p2_32 (M.ok_of hk).2.1
    have D63 := (M.ok_dep hk).2
    have D32 := (M.ok_of hk).2.1
    have P1 := M.apart_depth hk hko o5.symm (fun h => o2 h.symm)
    have Q1 : M.high h n - M.low h n = M.high h (M.oth n) - M.low h (M.oth n) := M.width_depth (h := h) o5.symm
    obtain ⟨b1, b2, b3⟩ := B1
    obtain ⟨b4, b5, b6⟩ := B2
    have hne : (M.oth n != n) = true := by rw [bne_iff_ne]; exact o2
    have hnn : (M.oth n == n) = false := by rw [beq_eq_false_iff_ne]; exact o2
    clear hk hko hn1 o2 o3 o4 o5 hmo
    generalize M.oth n = o at *
    generalize M.dep n = dn at *
    generalize M.low h n = la at *
    generalize M.low h o = lb at *
    generalize M.high h n = ha at *
    generalize M.high h o = hb at *
    generalize M.up n (dn - 1) = u at *
    have Q2 : (ha - la == hb - lb) = true := by rw [beq_iff_eq]; exact Q1
    clear Q1
    replace P1 : (ha < lb ∧ ha < lb) ∨ (¬ ha < lb ∧ hb < la) := by omega
    rcases P1 with ⟨P1, P2⟩ | ⟨P1, P2⟩
    all_goals
      go_enter Try.func8, Try.ntmps8
      go_wp2_with (first | (go_at_call 10; refine (live_any _).mono ?_; rintro e w' ⟨rfl, rfl⟩) | (go_at_call 23; refine (other_any _ _ _ (by omega) (by omega)).mono ?_; rintro e w' ⟨rfl, rfl⟩) | (go_at_call 13; refine (depth_any _ _ _ (by omega) (by omega)).mono ?_; rintro e w' ⟨rfl, rfl⟩) | (go_at_call 15; refine (up_any _ _ _ _ (by omega) (by omega)).mono ?_; rintro e w' ⟨rfl, rfl⟩) | (go_at_call 27; refine (meet_any _ _ _ _ (by omega) (by omega) (by omega) (by omega)).mono ?_; rintro e w' ⟨rfl, rfl⟩) | (go_at_call_of 17 (Value.int IntKind.u64 n); refine (leaves_any _ _ _ (by omega) (by omega)).mono ?_; rintro e w1 ⟨rfl, hb1⟩; have hs1 := hb1.size) | (go_at_call_of 17 (Value.int IntKind.u64 o); refine (leaves_any _ _ _ (by omega) (by omega)).mono ?_; rintro e w2 ⟨rfl, hb2⟩; have hs2 := below_lt hb2; obtain ⟨hc2, hf2⟩ := bcell hb2))
      go_ret
      exact ⟨rfl, below_two hb1 hb2⟩
  · have V : M.othV h n = 0 := by unfold M.othV; rw [if_neg hE]
    have hE' : (M.othE h n != 0) = true := by rw [bne_iff_ne]; exact hE
    go_enter Try.func8, Try.ntmps8
    go_wp2_with (first | (go_at_call 10; refine (live_any _).mono ?_; rintro e w' ⟨rfl, rfl⟩) | (go_at_call 23; refine (other_any _ _ _ (by omega) (by omega)).mono ?_; rintro e w' ⟨rfl, rfl⟩))
    go_ret
    exact ⟨rfl, Below.refl _ _⟩
end Go.Proofs.Ytonjdnjeemcilaa
