/-
  What leaf.With, Without and Below answer at every input. Conditions: the slice holds numbers that fit.
-/
import Derived.Test.YtnfobglaeaalfaaF5
namespace Go.Proofs.Ytnfobglaeaalfaa
open Go.RowKit
theorem own_back {w w' : World} {e : TypeId} {v : Value} {n : Nat} {xs : List Value} (hb : Below w.heap.size w w') {w2 : World} (h : w2.ownsRow w'.heap.size e 1 v n xs) : w2.ownsRow w.heap.size e 1 v n xs := own_lower h hb.size
theorem cell_at (w : World) (xs : Array Value) (e : TypeId) (j : Nat) : (w.alloc (.cells xs e)).cell? ⟨w.heap.size, j, none⟩ = xs[j]? := by
  rw [cell_of_row (w.alloc (.cells xs e)) w.heap.size j xs e (0, 0) (heap_alloc_new w _)]
theorem M.withE_zero {h : Int} {L : List Int} {i : Int} (hE : M.withE h L i = 0) : M.findE h L i = 0 ∧ M.has L i = false ∧ M.hasV h L i = false ∧ M.findN h L i = (M.pos L i : Nat) ∧ M.setB h L = true ∧ L.length < 1024 ∧ M.isB h i = true := by
  unfold M.withE at hE
  by_cases hf : M.findE h L i = 0
  · rw [if_pos hf] at hE
    cases hh : M.has L i
    · rw [hh] at hE
      have hs : M.setB h L = true ∧ M.isB h i = true := by
        have := hf
        unfold M.findE at this
        cases hx : (M.setB h L && M.isB h i)
        · rw [hx] at this; simp at this
        · simpa using hx
      have hl := (M.set_of hs.1).2.2.1
      refine ⟨hf, rfl, by unfold M.hasV; rw [hh]; simp, by unfold M.findN; rw [if_pos hf], hs.1, ?_, hs.2⟩
      by_cases h6 : L.length = 1024
      · simp [h6] at hE
      · omega
    · rw [hh] at hE; simp at hE
  · rw [if_neg hf] at hE; simp at hE
end Go.Proofs.Ytnfobglaeaalfaa
