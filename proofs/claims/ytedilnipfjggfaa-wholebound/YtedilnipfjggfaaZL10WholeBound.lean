/-
  The law WholeBound returns true at every input: of one leaf the bound is the height, of as many as there are it is none; it is never above the height, taken as often as there are leaves. Conditions: the slice holds numbers, the numbers fit their kinds.
-/
import Derived.Test.YtedilnipfjggfaaZI3
namespace Go.Proofs.Ytedilnipfjggfaa
open Go.RowKit
set_option maxRecDepth 100000 in
set_option maxHeartbeats 4000000 in
theorem wholeBound_no (h many : Int) (w : World) (m0 : -9223372036854775808 ≤ many) (m1 : many ≤ 9223372036854775807) (hc : M.cntB h many = false) :
    Calls Try.prog 6 #[.int .i64 h, .int .i64 many] w fun e w' => e = .returned (.bool true) ∧ Below w.heap.size w w' := by
  have hB0 := Below.refl w.heap.size w
  have hbV : M.bdV h many = 0 := by unfold M.bdV; rw [hc]; rfl
  have hbE : M.bdE h many = 1 := by unfold M.bdE; rw [hc]; rfl
  clear hc
  have T1 := hidq trivial
  have T2 := hidq trivial
  go_enter Try.func6, Try.ntmps6
  go_wp2_with (first | (go_at_call 8; clear T1; refine (live10_any _).mono ?_; rintro e w1 ⟨rfl, hb1⟩; have hB1 := below_trans hB0 hb1) | (go_at_call 11; clear T2; refine (bound_any h many _ m0 m1).mono ?_; rintro e w2 ⟨rfl, hb2⟩; have hB2 := below_trans hB1 hb2))
  go_ret
  exact ⟨rfl, hB2⟩
set_option maxRecDepth 100000 in
set_option maxHeartbeats 4000000 in
theorem wholeBound_high0 (h : Int) (w : World) (hc : M.cntB h 0 = true) (hh : ¬ h ≤ 10) :
    Calls Try.prog 6 #[.int .i64 h, .int .i64 0] w fun e w' => e = .returned (.bool true) ∧ Below w.heap.size w w' := by
  have hB0 := Below.refl w.heap.size w
  obtain ⟨s1, s2, s3, s4, s5⟩ := M.cnt_of hc
  have hE : M.bdE h 0 = 0 := by unfold M.bdE; rw [hc]; rfl
  obtain ⟨V, hV⟩ : ∃ V, M.bdV h 0 = V := ⟨_, rfl⟩
  have BM := hidq (fun W => bound_any h 0 W (by decide) (by decide))
  rw [hE, hV] at BM
  have hc1 := M.cnt_mk (many := 1) s1 s2 (by decide) (by decide) (M.p2_pos h)
  have B1 := hidq (fun W => bound_any h 1 W (by decide) (by decide))
  rw [show M.bdE h 1 = 0 by unfold M.bdE; rw [hc1]; rfl, show M.bdV h 1 = h by unfold M.bdV; rw [hc1, show M.dep 1 = 0 by decide +kernel]; simp] at B1
  have hwh : IntKind.u64.wrap h = h := M.wrapu_id (by omega) (by omega)
  have hV1 : V = 1 := by rw [← hV]; unfold M.bdV; rw [hc]; rfl
  have hVn : ¬ h < V := by omega
  have hwi : IntKind.i64.wrap h = h := by rw [IntKind.wrap_i64]; omega
  have hc2 : (0 : Int) < 1 := by decide
  clear hc hc1 hE hV
  have T1 := hidq trivial
  have T2 := hidq trivial
  have T3 := hidq trivial
  have T4 := hidq trivial
  go_enter Try.func6, Try.ntmps6
  go_wp2_with (first | (go_at_call 8; clear T1; refine (live10_any _).mono ?_; rintro e w1 ⟨rfl, hb1⟩; have hB1 := below_trans hB0 hb1) | (go_at_call 11; clear T2; refine (BM.out _).mono ?_; rintro e w2 ⟨rfl, hb2⟩; have hB2 := below_trans hB1 hb2) | (go_at_call 11; clear T3; refine (B1.out _).mono ?_; rintro e w3 ⟨rfl, hb3⟩; have hB3 := below_trans hB2 hb3) | (go_at_call 11; clear T4; refine (BP.out _).mono ?_; rintro e w4 ⟨rfl, hb4⟩; have hB4 := below_trans hB3 hb4))
  go_ret
  exact ⟨rfl, hB3⟩
set_option maxRecDepth 100000 in
set_option maxHeartbeats 4000000 in
theorem wholeBound_low0 (h : Int) (w : World) (hc : M.cntB h 0 = true) (hh : h ≤ 10) :
    Calls Try.prog 6 #[.int .i64 h, .int .i64 0] w fun e w' => e = .returned (.bool true) ∧ Below w.heap.size w w' := by
  have hB0 := Below.refl w.heap.size w
  obtain ⟨s1, s2, s3, s4, s5⟩ := M.cnt_of hc
  have hE : M.bdE h 0 = 0 := by unfold M.bdE; rw [hc]; rfl
  obtain ⟨V, hV⟩ : ∃ V, M.bdV h 0 = V := ⟨_, rfl⟩
  have BM := hidq (fun W => bound_any h 0 W (by decide) (by decide))
  rw [hE, hV] at BM
  have hc1 := M.cnt_mk (many := 1) s1 s2 (by decide) (by decide) (M.p2_pos h)
  have B1 := hidq (fun W => bound_any h 1 W (by decide) (by decide))
  rw [show M.bdE h 1 = 0 by unfold M.bdE; rw [hc1]; rfl, show M.bdV h 1 = h by unfold M.bdV; rw [hc1, show M.dep 1 = 0 by decide +kernel]; simp] at B1
  have hwh : IntKind.u64.wrap h = h := M.wrapu_id (by omega) (by omega)
  have hV1 : V = 1 := by rw [← hV]; unfold M.bdV; rw [hc]; rfl
  have hVn : ¬ h < V := by omega
  have hwi : IntKind.i64.wrap h = h := by rw [IntKind.wrap_i64]; omega
  have hc2 : (0 : Int) < 1 := by decide
  have hp := M.p2_pos h
  have hp2 := M.p2_mono hh
  have hp10 : M.p2 10 = 1024 := by decide +kernel
  have hcp := M.cnt_mk (many := M.p2 h) s1 s2 (by omega) (by omega) (Int.le_refl _)
  have BP := hidq (fun W => bound_any h (M.p2 h) W (by omega) (by omega))
  rw [show M.bdE h (M.p2 h) = 0 by unfold M.bdE; rw [hcp]; rfl, show M.bdV h (M.p2 h) = 0 by
    unfold M.bdV
    rw [hcp, if_pos rfl, if_neg (by omega), (M.dep_iff (M.p2 h) h (by omega) (by omega)).2 ⟨Int.le_refl _, by omega⟩, Int.sub_self, Int.mul_zero]] at BP
  have hsh : IntKind.i64.wrap (2 ^ h.toNat) = M.p2 h := by
    show IntKind.i64.wrap (M.p2 h) = M.p2 h
    rw [IntKind.wrap_i64]; omega
  generalize M.p2 h = P at *
  clear hcp
  clear hc hc1 hE hV
  have T1 := hidq trivial
  have T2 := hidq trivial
  have T3 := hidq trivial
  have T4 := hidq trivial
  go_enter Try.func6, Try.ntmps6
  go_wp2_with (first | (go_at_call 8; clear T1; refine (live10_any _).mono ?_; rintro e w1 ⟨rfl, hb1⟩; have hB1 := below_trans hB0 hb1) | (go_at_call 11; clear T2; refine (BM.out _).mono ?_; rintro e w2 ⟨rfl, hb2⟩; have hB2 := below_trans hB1 hb2) | (go_at_call 11; clear T3; refine (B1.out _).mono ?_; rintro e w3 ⟨rfl, hb3⟩; have hB3 := below_trans hB2 hb3) | (go_at_call 11; clear T4; refine (BP.out _).mono ?_; rintro e w4 ⟨rfl, hb4⟩; have hB4 := below_trans hB3 hb4))
  go_ret
  exact ⟨rfl, hB4⟩
set_option maxRecDepth 100000 in
set_option maxHeartbeats 4000000 in
theorem wholeBound_high1 (h many : Int) (w : World) (m0 : -9223372036854775808 ≤ many) (m1 : many ≤ 9223372036854775807) (c3 : 1 ≤ many) (hc : M.cntB h many = true) (hh : ¬ h ≤ 10) :
    Calls Try.prog 6 #[.int .i64 h, .int .i64 many] w fun e w' => e = .returned (.bool true) ∧ Below w.heap.size w w' := by
  have hB0 := Below.refl w.heap.size w
  obtain ⟨s1, s2, s3, s4, s5⟩ := M.cnt_of hc
  have hE : M.bdE h many = 0 := by unfold M.bdE; rw [hc]; rfl
  obtain ⟨V, hV⟩ : ∃ V, M.bdV h many = V := ⟨_, rfl⟩
  have BM := hidq (fun W => bound_any h many W m0 m1)
  rw [hE, hV] at BM
  have hc1 := M.cnt_mk (many := 1) s1 s2 (by decide) (by decide) (M.p2_pos h)
  have B1 := hidq (fun W => bound_any h 1 W (by decide) (by decide))
  rw [show M.bdE h 1 = 0 by unfold M.bdE; rw [hc1]; rfl, show M.bdV h 1 = h by unfold M.bdV; rw [hc1, show M.dep 1 = 0 by decide +kernel]; simp] at B1
  have hwh : IntKind.u64.wrap h = h := M.wrapu_id (by omega) (by omega)
  obtain ⟨k1, k2⟩ := M.mul_bd (a := many) (b := h) (by omega) (by omega) (by omega) (by omega)
  have hw1 : IntKind.i64.wrap (many * h) = many * h := by rw [IntKind.wrap_i64]; omega
  have hw2 : IntKind.u64.wrap (many * h) = many * h := M.wrapu_id (by omega) (by omega)
  have hVm : V ≤ many * h := by
    rw [← hV]
    unfold M.bdV
    rw [hc, if_pos rfl, if_neg (by omega)]
    exact Int.mul_le_mul_of_nonneg_left (by have := M.dep_nonneg many; omega) s3
  have hVn : ¬ many * h < V := by omega
  have hm3 : ¬ many < 1 := by omega
  have hm4 : 1 ≤ many := by omega
  clear hc hc1 hE hV
  have T1 := hidq trivial
  have T2 := hidq trivial
  have T3 := hidq trivial
  have T4 := hidq trivial
  go_enter Try.func6, Try.ntmps6
  go_wp2_with (first | (go_at_call 8; clear T1; refine (live10_any _).mono ?_; rintro e w1 ⟨rfl, hb1⟩; have hB1 := below_trans hB0 hb1) | (go_at_call 11; clear T2; refine (BM.out _).mono ?_; rintro e w2 ⟨rfl, hb2⟩; have hB2 := below_trans hB1 hb2) | (go_at_call 11; clear T3; refine (B1.out _).mono ?_; rintro e w3 ⟨rfl, hb3⟩; have hB3 := below_trans hB2 hb3) | (go_at_call 11; clear T4; refine (BP.out _).mono ?_; rintro e w4 ⟨rfl, hb4⟩; have hB4 := below_trans hB3 hb4))
  go_ret
  exact ⟨rfl, hB3⟩
set_option maxRecDepth 100000 in
set_option maxHeartbeats 4000000 in
theorem wholeBound_low1 (h many : Int) (w : World) (m0 : -9223372036854775808 ≤ many) (m1 : many ≤ 9223372036854775807) (c3 : 1 ≤ many) (hc : M.cntB h many = true) (hh : h ≤ 10) :
    Calls Try.prog 6 #[.int .i64 h, .int .i64 many] w fun e w' => e = .returned (.bool true) ∧ Below w.heap.size w w' := by
  have hB0 := Below.refl w.heap.size w
  obtain ⟨s1, s2, s3, s4, s5⟩ := M.cnt_of hc
  have hE : M.bdE h many = 0 := by unfold M.bdE; rw [hc]; rfl
  obtain ⟨V, hV⟩ : ∃ V, M.bdV h many = V := ⟨_, rfl⟩
  have BM := hidq (fun W => bound_any h many W m0 m1)
  rw [hE, hV] at BM
  have hc1 := M.cnt_mk (many := 1) s1 s2 (by decide) (by decide) (M.p2_pos h)
  have B1 := hidq (fun W => bound_any h 1 W (by decide) (by decide))
  rw [show M.bdE h 1 = 0 by unfold M.bdE; rw [hc1]; rfl, show M.bdV h 1 = h by unfold M.bdV; rw [hc1, show M.dep 1 = 0 by decide +kernel]; simp] at B1
  have hwh : IntKind.u64.wrap h = h := M.wrapu_id (by omega) (by omega)
  obtain ⟨k1, k2⟩ := M.mul_bd (a := many) (b := h) (by omega) (by omega) (by omega) (by omega)
  have hw1 : IntKind.i64.wrap (many * h) = many * h := by rw [IntKind.wrap_i64]; omega
  have hw2 : IntKind.u64.wrap (many * h) = many * h := M.wrapu_id (by omega) (by omega)
  have hVm : V ≤ many * h := by
    rw [← hV]
    unfold M.bdV
    rw [hc, if_pos rfl, if_neg (by omega)]
    exact Int.mul_le_mul_of_nonneg_left (by have := M.dep_nonneg many; omega) s3
  have hVn : ¬ many * h < V := by omega
  have hm3 : ¬ many < 1 := by omega
  have hm4 : 1 ≤ many := by omega
  have hp := M.p2_pos h
  have hp2 := M.p2_mono hh
  have hp10 : M.p2 10 = 1024 := by decide +kernel
  have hcp := M.cnt_mk (many := M.p2 h) s1 s2 (by omega) (by omega) (Int.le_refl _)
  have BP := hidq (fun W => bound_any h (M.p2 h) W (by omega) (by omega))
  rw [show M.bdE h (M.p2 h) = 0 by unfold M.bdE; rw [hcp]; rfl, show M.bdV h (M.p2 h) = 0 by
    unfold M.bdV
    rw [hcp, if_pos rfl, if_neg (by omega), (M.dep_iff (M.p2 h) h (by omega) (by omega)).2 ⟨Int.le_refl _, by omega⟩, Int.sub_self, Int.mul_zero]] at BP
  have hsh : IntKind.i64.wrap (2 ^ h.toNat) = M.p2 h := by
    show IntKind.i64.wrap (M.p2 h) = M.p2 h
    rw [IntKind.wrap_i64]; omega
  generalize M.p2 h = P at *
  clear hcp
  clear hc hc1 hE hV
  have T1 := hidq trivial
  have T2 := hidq trivial
  have T3 := hidq trivial
  have T4 := hidq trivial
  go_enter Try.func6, Try.ntmps6
  go_wp2_with (first | (go_at_call 8; clear T1; refine (live10_any _).mono ?_; rintro e w1 ⟨rfl, hb1⟩; have hB1 := below_trans hB0 hb1) | (go_at_call 11; clear T2; refine (BM.out _).mono ?_; rintro e w2 ⟨rfl, hb2⟩; have hB2 := below_trans hB1 hb2) | (go_at_call 11; clear T3; refine (B1.out _).mono ?_; rintro e w3 ⟨rfl, hb3⟩; have hB3 := below_trans hB2 hb3) | (go_at_call 11; clear T4; refine (BP.out _).mono ?_; rintro e w4 ⟨rfl, hb4⟩; have hB4 := below_trans hB3 hb4))
  go_ret
  exact ⟨rfl, hB4⟩
theorem wholeBound_walk (h many : Int) (w : World) (_ : -9223372036854775808 ≤ h) (_ : h ≤ 9223372036854775807) (m0 : -9223372036854775808 ≤ many) (m1 : many ≤ 9223372036854775807) :
    Calls Try.prog 6 #[.int .i64 h, .int .i64 many] w fun e w' => e = .returned (.bool true) ∧ Below w.heap.size w w' := by
  cases hc : M.cntB h many with
  | false => exact wholeBound_no h many w m0 m1 hc
  | true =>
    by_cases c3 : many = 0
    · subst c3
      by_cases hh : h ≤ 10
      · exact wholeBound_low0 h w hc hh
      · exact wholeBound_high0 h w hc hh
    · have c4 := (M.cnt_of hc).2.2.1
      by_cases hh : h ≤ 10
      · exact wholeBound_low1 h many w m0 m1 (by omega) hc hh
      · exact wholeBound_high1 h many w m0 m1 (by omega) hc hh
end Go.Proofs.Ytedilnipfjggfaa
