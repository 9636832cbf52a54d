/-
  A slice of spans in memory, as a list; the document's SameSpans of two that are one; the chapter's own example. Conditions: each theorem's own premises.
-/
import Derived.Test.YthmiieiajfghnaaZH2
namespace Go.Proofs.Ythmiieiajfghnaa
open Go.RowKit
/-- the slice value v holds the spans S -/
def Ps (W : World) (v : Value) (S : List (Int × Int)) : Prop :=
  ∃ ao cap, v = .slice ao S.length cap ∧ S.length ≤ cap ∧ cap ≤ maxLen ∧ (∀ x ∈ S, 0 ≤ x.1 ∧ x.1 ≤ 18446744073709551615 ∧ 0 ≤ x.2 ∧ x.2 ≤ 18446744073709551615) ∧
    (0 < cap → ∃ b off, ao = some ⟨b, off, none⟩ ∧ b < W.heap.size ∧ ∀ j, j < S.length → W.cell? ⟨b, off + j * 2, none⟩ = some (.int .u64 (S[j]?.getD (0, 0)).1) ∧ W.cell? ⟨b, off + j * 2 + 1, none⟩ = some (.int .u64 (S[j]?.getD (0, 0)).2))
theorem Ps.below {W W' : World} {v : Value} {S : List (Int × Int)} (h : Ps W v S) (hb : Below W.heap.size W W') : Ps W' v S := by
  obtain ⟨ao, cap, h1, h2, h3, h4, h5⟩ := h
  refine ⟨ao, cap, h1, h2, h3, h4, fun h0 => ?_⟩
  obtain ⟨b, off, h6, h7, h8⟩ := h5 h0
  exact ⟨b, off, h6, Nat.lt_of_lt_of_le h7 hb.size, fun j hj => ⟨(hb.cell (p := ⟨b, off + j * 2, none⟩) h7).trans (h8 j hj).1, (hb.cell (p := ⟨b, off + j * 2 + 1, none⟩) h7).trans (h8 j hj).2⟩⟩
theorem Ps.alloc {W : World} {v : Value} {S : List (Int × Int)} (h : Ps W v S) (o : Obj) : Ps (W.alloc o) v S := h.below ((Below.refl _ _).alloc (Nat.le_refl _) o)
theorem Ps.drew {W : World} {v : Value} {S : List (Int × Int)} (h : Ps W v S) : Ps W.drew v S := h.below (Below.refl _ _).drew
theorem spanC_get : ∀ (S : List (Int × Int)) (j : Nat), j < S.length → (spanC S)[j * 2]? = some (.int .u64 (S[j]?.getD (0, 0)).1) ∧ (spanC S)[j * 2 + 1]? = some (.int .u64 (S[j]?.getD (0, 0)).2)
  | [], j, h => by simp at h
  | s :: t, 0, _ => by simp [spanC]
  | s :: t, j + 1, h => by
    have := spanC_get t j (by simpa using h)
    rw [show (j + 1) * 2 = j * 2 + 1 + 1 by omega]
    simpa [spanC] using this
theorem Ps.of_own {W : World} {base : Nat} {e : TypeId} {v : Value} {n : Nat} {S : List (Int × Int)} (h : W.ownsRow base e 2 v n (spanC S)) (hb : ∀ x ∈ S, 0 ≤ x.1 ∧ x.1 ≤ 18446744073709551615 ∧ 0 ≤ x.2 ∧ x.2 ≤ 18446744073709551615) : Ps W v S := by
  have hn : S.length = n := by have := h.1; rw [spanC_length] at this; omega
  rcases h.2 with ⟨h1, h2⟩ | ⟨g, cap, cur, h1, h2, h3, h4, h5, h6, h7⟩
  · exact ⟨none, 0, by rw [h1, hn, h2], by omega, by simp [maxLen], hb, fun h0 => by omega⟩
  · refine ⟨some ⟨g, 0, none⟩, cap, by rw [h1, hn], by omega, h5, hb, fun h0 => ⟨g, 0, rfl, (Array.getElem?_eq_some_iff.1 h3).1, fun j hj => ?_⟩⟩
    subst h1
    have hc := h.cells (g := g) rfl
    obtain ⟨g1, g2⟩ := spanC_get S j hj
    have c1 := hc _ _ g1
    have c2 := hc _ _ g2
    rw [Addr.add_lit] at c1 c2
    exact ⟨c1, by rw [Nat.add_assoc]; exact c2⟩
theorem M.live_set : M.setB 2 [1] = true := by decide +kernel
theorem M.live_gaps : M.gapsL 0 (M.p2 2 - 1) [1] = [(0, 0), (2, 3)] := by decide +kernel
theorem Ps.lit (W : World) (e : TypeId) : Ps (W.alloc (.cells #[.int .u64 0, .int .u64 0, .int .u64 2, .int .u64 3] e)) (.slice (some ⟨W.heap.size, 0, none⟩) 2 2) [(0, 0), (2, 3)] := by
  refine ⟨_, _, rfl, by simp, by unfold maxLen; omega, by simp, fun _ => ⟨W.heap.size, 0, rfl, by simp, fun j hj => ?_⟩⟩
  rw [cell_at, cell_at]
  match j, hj with
  | 0, _ => exact ⟨rfl, rfl⟩
  | 1, _ => exact ⟨rfl, rfl⟩
end Go.Proofs.Ythmiieiajfghnaa
