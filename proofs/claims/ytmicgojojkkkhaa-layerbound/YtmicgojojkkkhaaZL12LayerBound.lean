/-
  The law LayerBound returns true at every input: a bound of differences is never above that of useful ones, nor that above twice it; of one leaf these are 1, and 2. Conditions: the numbers fit their kinds.
-/
import Derived.Test.YtmicgojojkkkhaaZTR
import Derived.Test.YtmicgojojkkkhaaZX6
import Derived.Test.YtmicgojojkkkhaaZXD1
namespace Go.Proofs.Ytmicgojojkkkhaa
open Go.RowKit
set_option maxRecDepth 100000 in
set_option maxHeartbeats 4000000 in
theorem layerBound_no (h many : Int) (w : World) (m0 : -9223372036854775808 ≤ many) (m1 : many ≤ 9223372036854775807) (hc : M.cntB h many = false) :
    Calls Try.prog 7 #[.int .i64 h, .int .i64 many] w fun e w' => e = .returned (.bool true) ∧ Below w.heap.size w w' := by
  have hB0 := Below.refl w.heap.size w
  have B1 := hidq (fun W => lbound_any h 1 many W m0 m1)
  have B2 := hidq (fun W => lbound_any h 2 many W m0 m1)
  have B3 := hidq (fun W => lbound_any h 3 many W m0 m1)
  rw [show M.lbE h 1 many = 1 by unfold M.lbE; rw [show M.kB 1 = true from rfl, hc]; rfl] at B1
  rw [show M.lbE h 2 many = 1 by unfold M.lbE; rw [show M.kB 2 = true from rfl, hc]; rfl] at B2
  rw [show M.lbE h 3 many = 1 by unfold M.lbE; rw [show M.kB 3 = true from rfl, hc]; rfl] at B3
  generalize M.lbV h 1 many = x1 at *
  generalize M.lbV h 2 many = x2 at *
  generalize M.lbV h 3 many = x3 at *
  clear hc
  have T1 := hidq trivial
  have T2 := hidq trivial
  have T3 := hidq trivial
  have T4 := hidq trivial
  go_enter Try.func7, Try.ntmps7
  go_wp2_with (first | (go_at_call 8; clear T1; refine (live12_any _).mono ?_; rintro e w1 ⟨rfl, hb1⟩; have hB1 := below_trans hB0 hb1) | (go_at_call 13; clear T2; refine (B2.out _).mono ?_; rintro e w2 ⟨rfl, hb2⟩; have hB2 := below_trans hB1 hb2) | (go_at_call 13; clear T3; refine (B3.out _).mono ?_; rintro e w3 ⟨rfl, hb3⟩; have hB3 := below_trans hB2 hb3) | (go_at_call 13; clear T4; refine (B1.out _).mono ?_; rintro e w4 ⟨rfl, hb4⟩; have hB4 := below_trans hB3 hb4))
  go_ret
  exact ⟨rfl, hB4⟩
set_option maxRecDepth 100000 in
set_option maxHeartbeats 4000000 in
theorem layerBound_zero (h : Int) (w : World)  (hc : M.cntB h 0 = true)  :
    Calls Try.prog 7 #[.int .i64 h, .int .i64 0] w fun e w' => e = .returned (.bool true) ∧ Below w.heap.size w w' := by
  have hB0 := Below.refl w.heap.size w
  have B1 := hidq (fun W => lbound_any h 1 0 W (by decide) (by decide))
  have B2 := hidq (fun W => lbound_any h 2 0 W (by decide) (by decide))
  have B3 := hidq (fun W => lbound_any h 3 0 W (by decide) (by decide))
  have B4 := hidq (fun W => lbound_any h 3 1 W (by decide) (by decide))
  obtain ⟨s1, s2, s3, s4, s5⟩ := M.cnt_of hc
  have hc1 := M.cnt_mk (many := 1) s1 s2 (by decide) (by decide) (M.p2_pos h)
  rw [show M.lbE h 1 0 = 0 by unfold M.lbE; rw [show M.kB 1 = true from rfl, hc]; rfl, show M.lbV h 1 0 = 1 by unfold M.lbV; rw [show M.kB 1 = true from rfl, hc]; show M.bdV h 0 = 1; unfold M.bdV; rw [hc]; rfl] at B1
  rw [show M.lbE h 2 0 = 0 by unfold M.lbE; rw [show M.kB 2 = true from rfl, hc]; rfl, show M.lbV h 2 0 = 1 by unfold M.lbV; rw [show M.kB 2 = true from rfl, hc]; show M.dbV h 0 = 1; unfold M.dbV; rw [hc]; rfl] at B2
  rw [show M.lbE h 3 0 = 0 by unfold M.lbE; rw [show M.kB 3 = true from rfl, hc]; rfl, show M.lbV h 3 0 = 1 by unfold M.lbV; rw [show M.kB 3 = true from rfl, hc]; rfl] at B3
  rw [show M.lbE h 3 1 = 0 by unfold M.lbE; rw [show M.kB 3 = true from rfl, hc1]; rfl, show M.lbV h 3 1 = 2 by unfold M.lbV; rw [show M.kB 3 = true from rfl, hc1]; rfl] at B4
  clear hc hc1 s5
  have T1 := hidq trivial
  have T2 := hidq trivial
  have T3 := hidq trivial
  have T4 := hidq trivial
  have T5 := hidq trivial
  go_enter Try.func7, Try.ntmps7
  go_wp2_with (first | (go_at_call 8; clear T1; refine (live12_any _).mono ?_; rintro e w1 ⟨rfl, hb1⟩; have hB1 := below_trans hB0 hb1) | (go_at_call 13; clear T2; refine (B2.out _).mono ?_; rintro e w2 ⟨rfl, hb2⟩; have hB2 := below_trans hB1 hb2) | (go_at_call 13; clear T3; refine (B3.out _).mono ?_; rintro e w3 ⟨rfl, hb3⟩; have hB3 := below_trans hB2 hb3) | (go_at_call 13; clear T4; refine (B1.out _).mono ?_; rintro e w4 ⟨rfl, hb4⟩; have hB4 := below_trans hB3 hb4) | (go_at_call 13; clear T5; refine (B4.out _).mono ?_; rintro e w5 ⟨rfl, hb5⟩; have hB5 := below_trans hB4 hb5))
  go_ret
  exact ⟨rfl, hB5⟩
set_option maxRecDepth 100000 in
set_option maxHeartbeats 4000000 in
theorem layerBound_one (h : Int) (w : World)  (hc : M.cntB h 1 = true)  :
    Calls Try.prog 7 #[.int .i64 h, .int .i64 1] w fun e w' => e = .returned (.bool true) ∧ Below w.heap.size w w' := by
  have hB0 := Below.refl w.heap.size w
  have B1 := hidq (fun W => lbound_any h 1 1 W (by decide) (by decide))
  have B2 := hidq (fun W => lbound_any h 2 1 W (by decide) (by decide))
  have B3 := hidq (fun W => lbound_any h 3 1 W (by decide) (by decide))
  have B4 := hidq (fun W => lbound_any h 3 1 W (by decide) (by decide))
  obtain ⟨s1, s2, s3, s4, s5⟩ := M.cnt_of hc
  have hc1 := M.cnt_mk (many := 1) s1 s2 (by decide) (by decide) (M.p2_pos h)
  rw [show M.lbE h 1 1 = 0 by unfold M.lbE; rw [show M.kB 1 = true from rfl, hc]; rfl, show M.lbV h 1 1 = h by unfold M.lbV; rw [show M.kB 1 = true from rfl, hc]; show M.bdV h 1 = h; unfold M.bdV; rw [hc, show M.dep 1 = 0 by decide +kernel]; simp] at B1
  rw [show M.lbE h 2 1 = 0 by unfold M.lbE; rw [show M.kB 2 = true from rfl, hc]; rfl, show M.lbV h 2 1 = 1 by unfold M.lbV; rw [show M.kB 2 = true from rfl, hc]; show M.dbV h 1 = 1; unfold M.dbV; rw [hc]; rfl] at B2
  rw [show M.lbE h 3 1 = 0 by unfold M.lbE; rw [show M.kB 3 = true from rfl, hc]; rfl, show M.lbV h 3 1 = 2 by unfold M.lbV; rw [show M.kB 3 = true from rfl, hc]; rfl] at B3
  rw [show M.lbE h 3 1 = 0 by unfold M.lbE; rw [show M.kB 3 = true from rfl, hc1]; rfl, show M.lbV h 3 1 = 2 by unfold M.lbV; rw [show M.kB 3 = true from rfl, hc1]; rfl] at B4
  have hwh : IntKind.u64.wrap h = h := M.wrapu_id (by omega) (by omega)
  clear hc hc1 s5
  have T1 := hidq trivial
  have T2 := hidq trivial
  have T3 := hidq trivial
  have T4 := hidq trivial
  have T5 := hidq trivial
  go_enter Try.func7, Try.ntmps7
  go_wp2_with (first | (go_at_call 8; clear T1; refine (live12_any _).mono ?_; rintro e w1 ⟨rfl, hb1⟩; have hB1 := below_trans hB0 hb1) | (go_at_call 13; clear T2; refine (B2.out _).mono ?_; rintro e w2 ⟨rfl, hb2⟩; have hB2 := below_trans hB1 hb2) | (go_at_call 13; clear T3; refine (B3.out _).mono ?_; rintro e w3 ⟨rfl, hb3⟩; have hB3 := below_trans hB2 hb3) | (go_at_call 13; clear T4; refine (B1.out _).mono ?_; rintro e w4 ⟨rfl, hb4⟩; have hB4 := below_trans hB3 hb4) | (go_at_call 13; clear T5; refine (B4.out _).mono ?_; rintro e w5 ⟨rfl, hb5⟩; have hB5 := below_trans hB4 hb5))
  go_ret
  exact ⟨rfl, hB5⟩
set_option maxRecDepth 100000 in
set_option maxHeartbeats 4000000 in
theorem layerBound_more (h many : Int) (w : World) (m0 : -9223372036854775808 ≤ many) (m1 : many ≤ 9223372036854775807) (hc : M.cntB h many = true) (h0 : ¬ many = 0) (h1 : ¬ many = 1) :
    Calls Try.prog 7 #[.int .i64 h, .int .i64 many] w fun e w' => e = .returned (.bool true) ∧ Below w.heap.size w w' := by
  have hB0 := Below.refl w.heap.size w
  have B1 := hidq (fun W => lbound_any h 1 many W m0 m1)
  have B2 := hidq (fun W => lbound_any h 2 many W m0 m1)
  have B3 := hidq (fun W => lbound_any h 3 many W m0 m1)
  have B4 := hidq (fun W => lbound_any h 3 1 W (by decide) (by decide))
  obtain ⟨s1, s2, s3, s4, s5⟩ := M.cnt_of hc
  have hc1 := M.cnt_mk (many := 1) s1 s2 (by decide) (by decide) (M.p2_pos h)
  rw [show M.lbE h 1 many = 0 by unfold M.lbE; rw [show M.kB 1 = true from rfl, hc]; rfl, show M.lbV h 1 many = M.bdV h many by unfold M.lbV; rw [show M.kB 1 = true from rfl, hc]; rfl] at B1
  rw [show M.lbE h 2 many = 0 by unfold M.lbE; rw [show M.kB 2 = true from rfl, hc]; rfl, show M.lbV h 2 many = 2 * many - 1 by unfold M.lbV; rw [show M.kB 2 = true from rfl, hc]; show M.dbV h many = _; unfold M.dbV; rw [hc, if_pos rfl, if_neg h0]] at B2
  rw [show M.lbE h 3 many = 0 by unfold M.lbE; rw [show M.kB 3 = true from rfl, hc]; rfl, show M.lbV h 3 many = 2 * (2 * many - 1) by unfold M.lbV; rw [show M.kB 3 = true from rfl, hc]; show (if many = 0 then (1 : Int) else 2 * (2 * many - 1)) = _; rw [if_neg h0]] at B3
  rw [show M.lbE h 3 1 = 0 by unfold M.lbE; rw [show M.kB 3 = true from rfl, hc1]; rfl, show M.lbV h 3 1 = 2 by unfold M.lbV; rw [show M.kB 3 = true from rfl, hc1]; rfl] at B4
  have hw1 : IntKind.u64.wrap (2 * (2 * many - 1)) = 2 * (2 * many - 1) := M.wrapu_id (by omega) (by omega)
  have hw2 : 2 * many - 1 ≤ 2 * (2 * many - 1) := by omega
  have hb0 : (many == 0) = false := by rw [beq_eq_false_iff_ne]; exact h0
  have hb1 : (many == 1) = false := by rw [beq_eq_false_iff_ne]; exact h1
  obtain ⟨P, hP⟩ : ∃ P, 2 * many - 1 = P := ⟨_, rfl⟩
  rw [hP] at B2 B3 hw1 hw2
  generalize M.bdV h many = V at *
  clear hP
  clear hc hc1 s5
  have T1 := hidq trivial
  have T2 := hidq trivial
  have T3 := hidq trivial
  have T4 := hidq trivial
  have T5 := hidq trivial
  go_enter Try.func7, Try.ntmps7
  go_wp2_with (first | (go_at_call 8; clear T1; refine (live12_any _).mono ?_; rintro e w1 ⟨rfl, hb1⟩; have hB1 := below_trans hB0 hb1) | (go_at_call 13; clear T2; refine (B2.out _).mono ?_; rintro e w2 ⟨rfl, hb2⟩; have hB2 := below_trans hB1 hb2) | (go_at_call 13; clear T3; refine (B3.out _).mono ?_; rintro e w3 ⟨rfl, hb3⟩; have hB3 := below_trans hB2 hb3) | (go_at_call 13; clear T4; refine (B1.out _).mono ?_; rintro e w4 ⟨rfl, hb4⟩; have hB4 := below_trans hB3 hb4) | (go_at_call 13; clear T5; refine (B4.out _).mono ?_; rintro e w5 ⟨rfl, hb5⟩; have hB5 := below_trans hB4 hb5))
  go_ret
  exact ⟨rfl, hB5⟩
set_option maxRecDepth 100000 in
theorem layerBound_walk (h many : Int) (w : World) (_ : -9223372036854775808 ≤ h) (_ : h ≤ 9223372036854775807) (m0 : -9223372036854775808 ≤ many) (m1 : many ≤ 9223372036854775807) :
    Calls Try.prog 7 #[.int .i64 h, .int .i64 many] w fun e w' => e = .returned (.bool true) ∧ Below w.heap.size w w' := by
  cases hc : M.cntB h many with
  | false => exact layerBound_no h many w m0 m1 hc
  | true =>
    by_cases h0 : many = 0
    · subst h0; exact layerBound_zero h w hc
    · by_cases h1 : many = 1
      · subst h1; exact layerBound_one h w hc
      · exact layerBound_more h many w m0 m1 hc h0 h1
end Go.Proofs.Ytmicgojojkkkhaa
