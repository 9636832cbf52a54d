/-
  What the library's search in a rising slice of numbers tells. Conditions: the slice holds numbers that fit, and rises.
-/
import Derived.Test.YtnfobglaeaalfaaF1
namespace Go.Proofs.Ytnfobglaeaalfaa
open Go.RowKit
namespace M
theorem rising_lt {L : List Int} (h : L.Pairwise (· < ·)) {a b : Nat} (hab : a < b) (hb : b < L.length) : L[a]?.getD 0 < L[b]?.getD 0 := by
  have := List.pairwise_iff_getElem.1 h a b (by omega) hb hab
  simpa [show a < L.length by omega, hb] using this
theorem pos_lt {L : List Int} {x : Int} (h : L.Pairwise (· < ·)) {a : Nat} (ha : a < L.length) : a < pos L x ↔ L[a]?.getD 0 < x := by
  have hp := parts x h
  have hg : L[a]? = (L.filter (fun y => decide (y < x)) ++ L.filter (fun y => decide (x ≤ y)))[a]? := by rw [hp]
  constructor
  · intro hlt
    rw [List.getElem?_append_left hlt] at hg
    have hm := List.getElem_mem hlt
    rw [hg, List.getElem?_eq_getElem hlt]
    simpa using (List.mem_filter.1 hm).2
  · intro hlt
    apply Classical.byContradiction
    intro hge
    rw [List.getElem?_append_right (by unfold pos at hge; omega)] at hg
    have hlen : (L.filter (fun y => decide (y < x))).length + (L.filter (fun y => decide (x ≤ y))).length = L.length := by
      rw [← List.length_append, hp]
    have hin : a - (L.filter (fun y => decide (y < x))).length < (L.filter (fun y => decide (x ≤ y))).length := by unfold pos at hge; omega
    have hm := List.getElem_mem hin
    rw [hg, List.getElem?_eq_getElem hin] at hlt
    have := (List.mem_filter.1 hm).2
    simp at this hlt
    omega
theorem has_pos {L : List Int} {x : Int} (h : L.Pairwise (· < ·)) : has L x = true ↔ pos L x < L.length ∧ L[pos L x]?.getD 0 = x := by
  constructor
  · intro hh
    have h1 := drop_pos (i := x) h
    rw [filter_ge_in h hh] at h1
    have h2 := (out_parts h hh).1
    have h3 := congrArg (fun l => l[0]?) h1
    simp at h3
    exact ⟨by omega, by rw [h3]; rfl⟩
  · rintro ⟨h1, h2⟩
    unfold has
    simp only [decide_eq_true_eq]
    rw [← h2]
    simp only [h1, getElem?_pos, Option.getD_some]
    exact List.getElem_mem h1
end M
end Go.Proofs.Ytnfobglaeaalfaa
