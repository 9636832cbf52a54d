/-
  What leaf's find and Has answer at every input. Conditions: the slice holds numbers that fit.
-/
import Derived.Test.YtnfobglaeaalfaaF2
namespace Go.Proofs.Ytnfobglaeaalfaa
open Go.RowKit
theorem M.setE_yes {h : Int} {L : List Int} (hs : M.setB h L = true) : M.setE h L = 0 := by unfold M.setE; rw [hs]; rfl
theorem M.setE_no {h : Int} {L : List Int} (hs : M.setB h L = false) : M.setE h L = 1 := by unfold M.setE; rw [hs]; rfl
theorem M.leafE_is {h i : Int} (hs : M.isB h i = true) : M.leafE h i = 0 := by
  unfold M.isB at hs
  simp only [Bool.and_eq_true, decide_eq_true_eq] at hs
  exact M.leafE_yes (M.ht_of hs.1).1 (M.ht_of hs.1).2 hs.2
theorem M.leafE_isnt {h i : Int} (hs : M.isB h i = false) : (M.leafE h i != 0) = true := by
  rw [bne_iff_ne]
  intro e
  unfold M.leafE at e
  unfold M.isB at hs
  cases hh : M.htB h
  · rw [hh] at e; simp at e
  · rw [hh] at e hs; simp at e hs; omega
end Go.Proofs.Ytnfobglaeaalfaa
