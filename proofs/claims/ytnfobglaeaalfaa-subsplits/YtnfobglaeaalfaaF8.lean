/-
  What leaf.Below answers at every input. Conditions: the slice holds numbers that fit.
-/
import Derived.Test.YtnfobglaeaalfaaF7
namespace Go.Proofs.Ytnfobglaeaalfaa
open Go.RowKit
theorem M.belL_part {L : List Int} {lo hi : Int} (h : L.Pairwise (· < ·)) (hl : lo ≤ hi + 1) : M.pos L lo ≤ M.pos L (hi + 1) ∧ (L.drop (M.pos L lo)).take (M.pos L (hi + 1) - M.pos L lo) = M.belL lo hi L := by
  have hle : M.pos L lo ≤ M.pos L (hi + 1) := by
    unfold M.pos
    rw [← List.countP_eq_length_filter, ← List.countP_eq_length_filter]
    refine List.countP_mono_left fun x _ hx => ?_
    simp at hx ⊢; omega
  refine ⟨hle, ?_⟩
  have h1 := M.take_pos (i := hi + 1) h
  have h2 : (L.take (M.pos L (hi + 1))).drop (M.pos L lo) = (L.drop (M.pos L lo)).take (M.pos L (hi + 1) - M.pos L lo) := by rw [List.drop_take]
  rw [← h2, h1]
  have h3 : (L.filter (fun x => decide (x < hi + 1))).take (M.pos L lo) = L.filter (fun x => decide (x < lo)) := by
    rw [← h1, List.take_take, Nat.min_eq_left hle, M.take_pos h]
  have h4 := M.parts (L := L.filter (fun x => decide (x < hi + 1))) lo (h.filter _)
  have h5 : (L.filter (fun x => decide (x < hi + 1))).filter (fun x => decide (x < lo)) = L.filter (fun x => decide (x < lo)) := by
    rw [List.filter_filter]
    refine List.filter_congr fun x _ => ?_
    by_cases hx : x < lo
    · simp [hx]; omega
    · simp [hx]
  rw [h5] at h4
  have h6 : (L.filter (fun x => decide (x < hi + 1))).drop (M.pos L lo) = (L.filter (fun x => decide (x < hi + 1))).filter (fun x => decide (lo ≤ x)) := by
    conv => lhs; rw [← h4]
    unfold M.pos
    exact List.drop_left
  rw [h6, List.filter_filter]
  unfold M.belL
  refine List.filter_congr fun x _ => ?_
  congr 1
  by_cases hx : x ≤ hi
  · simp [hx]; omega
  · simp [hx]; omega
end Go.Proofs.Ytnfobglaeaalfaa
