/-
  What leaf's find and Has answer at every input. Conditions: the slice holds numbers that fit.
-/
import Derived.Test.YthmiieiajfghnaaZF2
namespace Go.Proofs.Ythmiieiajfghnaa
open Go.RowKit
theorem M.setE_yes {h : Int} {L : List Int} (hs : M.setB h L = true) : M.setE h L = 0 := by unfold M.setE; rw [hs]; rfl
theorem M.setE_no {h : Int} {L : List Int} (hs : M.setB h L = false) : M.setE h L = 1 := by unfold M.setE; rw [hs]; rfl
theorem M.leafE_is {h i : Int} (hs : M.isB h i = true) : M.leafE h i = 0 := by
  unfold M.isB at hs
  simp only [Bool.and_eq_true, decide_eq_true_eq] at hs
  exact M.leafE_yes (M.ht_of hs.1).1 (M.ht_of hs.1).2 hs.2
theorem M.leafE_isnt {h i : Int} (hs : M.isB h i = false) : (M.leafE h i != 0) = true := by
  rw [bne_iff_ne]
  intro e
  unfold M.leafE at e
  unfold M.isB at hs
  cases hh : M.htB h
  · rw [hh] at e; simp at e
  · rw [hh] at e hs; simp at e hs; omega
set_option maxHeartbeats 400000 in
theorem find_any (h : Int) (L : List Int) (v : Value) (i : Int) (w : World) (hu : Us w v L) (h0 : 0 ≤ i) (h1 : i ≤ 18446744073709551615) :
    Calls Try.prog 48 #[.int .i64 h, v, .int .u64 i] w fun e w' => e = .returned (.tuple #[.int .i64 (M.findN h L i), .bool (M.hasV h L i), .int .i64 (M.findE h L i)]) ∧ Below w.heap.size w w' := by
  cases hs : M.setB h L
  · have e1 := M.setE_no hs
    have e2 : M.findE h L i = 1 := by unfold M.findE; rw [hs]; rfl
    have e3 : M.findN h L i = 0 := by unfold M.findN; rw [e2]; rfl
    have e4 : M.hasV h L i = false := by unfold M.hasV; rw [e2]; rfl
    rw [e2, e3, e4]
    clear hs
    go_enter Try.func48, Try.ntmps48
    go_wp2_with (first | (go_at_call 31; refine (setCheck_any _ L _ _ hu).mono ?_; rintro e w1 ⟨rfl, hb1⟩))
    go_ret3
    exact ⟨rfl, hb1⟩
  · have e1 := M.setE_yes hs
    obtain ⟨_, _, hlen, _, hL, _⟩ := M.set_of hs
    cases hi : M.isB h i
    · have e2 : M.findE h L i = 1 := by unfold M.findE; rw [hs, hi]; rfl
      have e3 : M.findN h L i = 0 := by unfold M.findN; rw [e2]; rfl
      have e4 : M.hasV h L i = false := by unfold M.hasV; rw [e2]; rfl
      have e5 := M.leafE_isnt hi
      rw [e2, e3, e4]
      clear hs hi
      go_enter Try.func48, Try.ntmps48
      go_wp2_with (first | (go_at_call 31; refine (setCheck_any _ L _ _ hu).mono ?_; rintro e w1 ⟨rfl, hb1⟩) | (go_at_call 34; refine (leaf_any _ _ _ (by omega) (by omega)).mono ?_; rintro e w' ⟨rfl, hw⟩; subst w'))
      go_ret3
      exact ⟨rfl, hb1⟩
    · have e2 : M.findE h L i = 0 := by unfold M.findE; rw [hs, hi]; rfl
      have e3 : M.findN h L i = M.pos L i := by unfold M.findN; rw [e2]; rfl
      have e4 : M.hasV h L i = M.has L i := by unfold M.hasV; rw [e2]; rfl
      have e5 := M.leafE_is hi
      rw [e2, e3, e4]
      clear hs hi
      go_enter Try.func48, Try.ntmps48
      go_wp2_with (first | (go_at_call 31; refine (setCheck_any _ L _ _ hu).mono ?_; rintro e w1 ⟨rfl, hb1⟩) | (go_at_call 34; refine (leaf_any _ _ _ (by omega) (by omega)).mono ?_; rintro e w' ⟨rfl, hw⟩; subst w') | (go_at_call 49; refine (search_any L _ _ _ (hu.below hb1) hL (by omega)).mono ?_; rintro e w' ⟨rfl, hw⟩; subst w'))
      go_ret3
      exact ⟨rfl, hb1⟩
set_option maxHeartbeats 400000 in
theorem has_any (h : Int) (L : List Int) (v : Value) (i : Int) (w : World) (hu : Us w v L) (h0 : 0 ≤ i) (h1 : i ≤ 18446744073709551615) :
    Calls Try.prog 25 #[.int .i64 h, v, .int .u64 i] w fun e w' => e = .returned (.tuple #[.bool (M.hasV h L i), .int .i64 (M.findE h L i)]) ∧ Below w.heap.size w w' := by
  go_enter Try.func25, Try.ntmps25
  go_wp2_with (first | (go_at_call 48; refine (find_any _ L _ _ _ hu (by omega) (by omega)).mono ?_; rintro e w1 ⟨rfl, hb1⟩))
  go_ret2
  exact ⟨rfl, hb1⟩
end Go.Proofs.Ythmiieiajfghnaa
