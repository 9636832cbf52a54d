/-
  The law LayerPairs returns true at every input: of useful ones beside the way to a leaf there are no more than of all, and no fewer than the height; where the step is 1, as many as of all. Conditions: the numbers fit their kinds.
-/
import Derived.Test.YtmicgojojkkkhaaZTR
import Derived.Test.YtmicgojojkkkhaaZX6
import Derived.Test.YtmicgojojkkkhaaZXD1
namespace Go.Proofs.Ytmicgojojkkkhaa
open Go.RowKit
set_option maxRecDepth 100000 in
set_option maxHeartbeats 4000000 in
theorem layerPairs_no (h : Int) (w : World) (hh : M.htB h = false) :
    Calls Try.prog 6 #[.int .i64 h] w fun e w' => e = .returned (.bool true) ∧ Below w.heap.size w w' := by
  have hB0 := Below.refl w.heap.size w
  have PC := hidq (fun W => lpairs_any h W)
  rw [show M.prV h = 0 by unfold M.prV; rw [hh]; rfl, show M.prE h = 1 by unfold M.prE; rw [hh]; rfl] at PC
  clear hh
  have T1 := hidq trivial
  have T2 := hidq trivial
  go_enter Try.func6, Try.ntmps6
  go_wp2_with (first | (go_at_call 8; clear T1; refine (live12_any _).mono ?_; rintro e w1 ⟨rfl, hb1⟩; have hB1 := below_trans hB0 hb1) | (go_at_call 21; clear T2; refine (PC.out _).mono ?_; rintro e w2 ⟨rfl, hb2⟩; have hB2 := below_trans hB1 hb2))
  go_ret
  exact ⟨rfl, hB2⟩
set_option maxRecDepth 100000 in
set_option maxHeartbeats 4000000 in
theorem layerPairs_great (h : Int) (w : World) (hh : M.htB h = true) (h1 : 1 < M.stp h) :
    Calls Try.prog 6 #[.int .i64 h] w fun e w' => e = .returned (.bool true) ∧ Below w.heap.size w w' := by
  have hB0 := Below.refl w.heap.size w
  obtain ⟨s1, s2⟩ := M.ht_of hh
  obtain ⟨f1, f2, f3⟩ := M.pr_facts s1 s2
  have PC := hidq (fun W => lpairs_any h W)
  have SC := hidq (fun W => step8_any h W)
  rw [show M.prE h = 0 by unfold M.prE; rw [hh]; rfl] at PC
  rw [show M.stpE h = 0 by unfold M.stpE; rw [hh]; rfl, show M.stpV h = M.stp h by unfold M.stpV; rw [hh]; rfl] at SC
  obtain ⟨m1, m2⟩ := M.mul_bd (a := h) (b := h + 1 - 1) (by omega) (by omega) (by omega) (by omega)
  have hmul : h * (h + 1) = h * (h + 1 - 1) + h := by rw [Int.mul_add, Int.mul_one, Int.add_sub_cancel]
  have hw1 : IntKind.i64.wrap (h + 1) = h + 1 := by rw [IntKind.wrap_i64]; omega
  have hw2 : IntKind.i64.wrap (h * (h + 1)) = h * (h + 1) := by rw [IntKind.wrap_i64]; omega
  have hdv : (h * (h + 1)).tdiv 2 = h * (h + 1) / 2 := Int.tdiv_eq_ediv_of_nonneg (by omega)
  have hw3 : IntKind.i64.wrap (h * (h + 1) / 2) = h * (h + 1) / 2 := by rw [IntKind.wrap_i64]; omega
  clear f3
  clear hmul m1 m2
  generalize h * (h + 1) / 2 = q at *
  generalize M.prV h = n at *
  generalize M.stp h = t at *
  clear hh
  have T1 := hidq trivial
  have T2 := hidq trivial
  go_enter Try.func6, Try.ntmps6
  go_wp2_with (first | (go_at_call 8; clear T1; refine (live12_any _).mono ?_; rintro e w1 ⟨rfl, hb1⟩; have hB1 := below_trans hB0 hb1) | (go_at_call 21; clear T2; refine (PC.out _).mono ?_; rintro e w2 ⟨rfl, hb2⟩; have hB2 := below_trans hB1 hb2) | (go_at_call 22; refine (SC.out _).mono ?_; rintro e w' ⟨rfl, hw⟩; subst w'))
  go_ret
  exact ⟨rfl, hB2⟩
set_option maxRecDepth 100000 in
set_option maxHeartbeats 4000000 in
theorem layerPairs_one (h : Int) (w : World) (hh : M.htB h = true) (h1 : ¬ 1 < M.stp h) :
    Calls Try.prog 6 #[.int .i64 h] w fun e w' => e = .returned (.bool true) ∧ Below w.heap.size w w' := by
  have hB0 := Below.refl w.heap.size w
  obtain ⟨s1, s2⟩ := M.ht_of hh
  obtain ⟨f1, f2, f3⟩ := M.pr_facts s1 s2
  have PC := hidq (fun W => lpairs_any h W)
  have SC := hidq (fun W => step8_any h W)
  rw [show M.prE h = 0 by unfold M.prE; rw [hh]; rfl] at PC
  rw [show M.stpE h = 0 by unfold M.stpE; rw [hh]; rfl, show M.stpV h = M.stp h by unfold M.stpV; rw [hh]; rfl] at SC
  obtain ⟨m1, m2⟩ := M.mul_bd (a := h) (b := h + 1 - 1) (by omega) (by omega) (by omega) (by omega)
  have hmul : h * (h + 1) = h * (h + 1 - 1) + h := by rw [Int.mul_add, Int.mul_one, Int.add_sub_cancel]
  have hw1 : IntKind.i64.wrap (h + 1) = h + 1 := by rw [IntKind.wrap_i64]; omega
  have hw2 : IntKind.i64.wrap (h * (h + 1)) = h * (h + 1) := by rw [IntKind.wrap_i64]; omega
  have hdv : (h * (h + 1)).tdiv 2 = h * (h + 1) / 2 := Int.tdiv_eq_ediv_of_nonneg (by omega)
  have hw3 : IntKind.i64.wrap (h * (h + 1) / 2) = h * (h + 1) / 2 := by rw [IntKind.wrap_i64]; omega
  have f4 := f3.resolve_left h1
  clear f3
  clear hmul m1 m2
  generalize h * (h + 1) / 2 = q at *
  generalize M.prV h = n at *
  generalize M.stp h = t at *
  clear hh
  have T1 := hidq trivial
  have T2 := hidq trivial
  go_enter Try.func6, Try.ntmps6
  go_wp2_with (first | (go_at_call 8; clear T1; refine (live12_any _).mono ?_; rintro e w1 ⟨rfl, hb1⟩; have hB1 := below_trans hB0 hb1) | (go_at_call 21; clear T2; refine (PC.out _).mono ?_; rintro e w2 ⟨rfl, hb2⟩; have hB2 := below_trans hB1 hb2) | (go_at_call 22; refine (SC.out _).mono ?_; rintro e w' ⟨rfl, hw⟩; subst w'))
  go_ret
  exact ⟨rfl, hB2⟩
set_option maxRecDepth 100000 in
theorem layerPairs_walk (h : Int) (w : World) (_ : -9223372036854775808 ≤ h) (_ : h ≤ 9223372036854775807) :
    Calls Try.prog 6 #[.int .i64 h] w fun e w' => e = .returned (.bool true) ∧ Below w.heap.size w w' := by
  cases hh : M.htB h with
  | false => exact layerPairs_no h w hh
  | true =>
    by_cases h1 : 1 < M.stp h
    · exact layerPairs_great h w hh h1
    · exact layerPairs_one h w hh h1
end Go.Proofs.Ytmicgojojkkkhaa
