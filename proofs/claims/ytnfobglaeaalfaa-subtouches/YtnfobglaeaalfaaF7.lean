/-
  What leaf.With answers where it refuses, and what Without answers at every input. Conditions: the slice holds numbers that fit.
-/
import Derived.Test.YtnfobglaeaalfaaF6
namespace Go.Proofs.Ytnfobglaeaalfaa
open Go.RowKit
theorem M.outE_zero {h : Int} {L : List Int} {i : Int} (hE : M.outE h L i = 0) : M.findE h L i = 0 ∧ M.has L i = true ∧ M.hasV h L i = true ∧ M.findN h L i = (M.pos L i : Nat) ∧ M.setB h L = true ∧ M.isB h i = true := by
  unfold M.outE at hE
  by_cases hf : M.findE h L i = 0
  · rw [if_pos hf] at hE
    cases hh : M.has L i
    · rw [hh] at hE; simp at hE
    · have hs : M.setB h L = true ∧ M.isB h i = true := by
        have := hf
        unfold M.findE at this
        cases hx : (M.setB h L && M.isB h i)
        · rw [hx] at this; simp at this
        · simpa using hx
      exact ⟨hf, rfl, by unfold M.hasV; rw [hh, hf]; simp, by unfold M.findN; rw [if_pos hf], hs.1, hs.2⟩
  · rw [if_neg hf] at hE; simp at hE
end Go.Proofs.Ytnfobglaeaalfaa
