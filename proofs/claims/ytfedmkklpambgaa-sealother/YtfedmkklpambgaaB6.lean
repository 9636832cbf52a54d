/-
  A slice of octets in memory, as a list; what filled makes of it. Conditions: each theorem's own premises.
-/
import Derived.Test.YtfedmkklpambgaaB5
import Derived.Laws.CopyOwn
namespace Go.Proofs.Ytfedmkklpambgaa
open Go.RowKit
/-- the slice value v holds the octets L -/
def Bs (W : World) (v : Value) (L : List Int) : Prop :=
  ∃ ao cap, v = .slice ao L.length cap ∧ L.length ≤ cap ∧ cap ≤ maxLen ∧ (∀ x ∈ L, 0 ≤ x ∧ x ≤ 255) ∧
    (0 < cap → ∃ b off, ao = some ⟨b, off, none⟩ ∧ b < W.heap.size ∧ ∀ j, j < L.length → W.cell? ⟨b, off + j, none⟩ = some (.int .u8 (L[j]?.getD 0)))
theorem Bs.below {W W' : World} {v : Value} {L : List Int} (h : Bs W v L) (hb : Below W.heap.size W W') : Bs W' v L := by
  obtain ⟨ao, cap, h1, h2, h3, h4, h5⟩ := h
  refine ⟨ao, cap, h1, h2, h3, h4, fun h0 => ?_⟩
  obtain ⟨b, off, h6, h7, h8⟩ := h5 h0
  exact ⟨b, off, h6, Nat.lt_of_lt_of_le h7 hb.size, fun j hj => (hb.cell (p := ⟨b, off + j, none⟩) h7).trans (h8 j hj)⟩
theorem Bs.alloc {W : World} {v : Value} {L : List Int} (h : Bs W v L) (o : Obj) : Bs (W.alloc o) v L := h.below ((Below.refl _ _).alloc (Nat.le_refl _) o)
theorem Bs.fits {W : World} {v : Value} {L : List Int} (h : Bs W v L) : ∀ x ∈ L, 0 ≤ x ∧ x ≤ 255 := by
  obtain ⟨_, _, _, _, _, q, _⟩ := h; exact q
theorem Bs.nil (W : World) : Bs W (.slice none 0 0) [] := ⟨none, 0, rfl, by simp, by simp [maxLen], by simp, fun h => by simp at h⟩
/-- a part of it -/
theorem Bs.part {W : World} {b off cap n : Nat} {L : List Int} (h : Bs W (.slice (some ⟨b, off, none⟩) n cap) L) (lo hi c : Nat) (h1 : lo ≤ hi) (h2 : hi ≤ n) (h3 : hi - lo ≤ c) (h4 : c ≤ cap) (h5 : 0 < cap) : Bs W (.slice (some ⟨b, off + lo, none⟩) (hi - lo) c) ((L.drop lo).take (hi - lo)) := by
  obtain ⟨ao, cap', e, q1, q2, q3, q4⟩ := h
  simp only [Value.slice.injEq] at e
  obtain ⟨rfl, rfl, rfl⟩ := e
  obtain ⟨b', off', e, q5, q6⟩ := q4 (by omega)
  cases e
  have hlen : ((L.drop lo).take (hi - lo)).length = hi - lo := by simp; omega
  refine ⟨_, _, by rw [hlen], by omega, by omega, fun x hx => q3 x (List.mem_of_mem_drop (List.mem_of_mem_take hx)), fun _ => ⟨b, off + lo, rfl, q5, fun j hj => ?_⟩⟩
  rw [hlen] at hj
  rw [Nat.add_assoc, q6 (lo + j) (by omega), List.getElem?_take, if_pos hj, List.getElem?_drop]
/-- the octets, zeros behind -/
def M.fillF (L : List Int) (j : Nat) : Int := L[j]?.getD 0
theorem fillF_oct {L : List Int} (h : ∀ x ∈ L, 0 ≤ x ∧ x ≤ 255) : M.Oct (M.fillF L) := by
  intro j _
  unfold M.fillF
  by_cases hj : j < L.length
  · have : L[j]?.getD 0 = L[j] := by simp [hj]
    rw [this]; exact h _ (List.getElem_mem hj)
  · rw [List.getElem?_eq_none (by omega)]; simp
def u8s (L : List Int) : List Value := L.map (fun x => .int .u8 x)
theorem u8s_length (L : List Int) : (u8s L).length = L.length := by simp [u8s]
theorem u8s_get (L : List Int) (j : Nat) (hj : j < L.length) : (u8s L)[j]? = some (.int .u8 (L[j]?.getD 0)) := by simp [u8s, hj]
theorem splice_fill (L : List Int) : (splice (octC fun _ => 0).toList 0 (u8s (L.take 16))).toArray = octC (M.fillF L) := by
  apply Array.ext_getElem?
  intro i
  have hl : (u8s (L.take 16)).length = min 16 L.length := by rw [u8s_length, List.length_take]
  simp only [splice, List.take_zero, List.nil_append, Nat.zero_add]
  rw [List.getElem?_toArray, List.getElem?_append]
  by_cases hi : i < 16
  · rw [octC_get _ i hi]
    by_cases h2 : i < (u8s (L.take 16)).length
    · rw [if_pos h2, u8s_get _ i (by rw [u8s_length] at h2; exact h2), List.getElem?_take, if_pos hi]; rfl
    · rw [if_neg h2, List.getElem?_drop, show (u8s (L.take 16)).length + (i - (u8s (L.take 16)).length) = i by omega]
      have h3 := octC_get (fun _ => 0) i hi
      rw [← Array.getElem?_toList] at h3
      rw [h3]
      unfold M.fillF
      rw [List.getElem?_eq_none (by omega)]
      rfl
  · rw [if_neg (by omega), List.getElem?_drop, List.getElem?_eq_none (by show (octC fun _ => 0).size ≤ _; rw [octC_size]; omega), Array.getElem?_eq_none (by rw [octC_size]; omega)]
theorem Try.sizeU8 : (Try.prog.info? 5).map (·.size) = some 1 := by kernel_rfl
theorem setRow_below (w : World) (g : Nat) (cs : Array Value) : Below g w (w.setRow g cs) := below_setRow (Below.refl _ _) (Nat.le_refl _) cs
/-- 'copy' of a slice of octets into sixteen zeros -/
theorem run_copy_fill (W : World) (g cap : Nat) (T ty : TypeId) (ao : Option Addr) (L : List Int) (hB : Bs W (.slice ao L.length cap) L) (hg : W.heap[g]? = some (.cells (octC fun _ => 0) T (0, 0))) :
    ∃ W1, (Builtin.copy_ #[27, 27] ty #[.slice (some ⟨g, 0, none⟩) 16 16, .slice ao L.length cap]).run Try.prog W = .ok (.int .i64 ((min 16 L.length : Nat) : Int)) W1 ∧ W1.heap[g]? = some (.cells (octC (M.fillF L)) T (0, 0)) ∧ Below g W W1 := by
  obtain ⟨ao', cap', e, q1, q2, q3, q4⟩ := hB
  simp only [Value.slice.injEq] at e
  obtain ⟨rfl, _, rfl⟩ := e
  rcases Nat.eq_zero_or_pos L.length with h0 | h0
  · have hL : L = [] := List.eq_nil_of_length_eq_zero h0
    subst hL
    refine ⟨W, ?_, ?_, Below.refl _ _⟩
    · have := run_copy_none (P := Try.prog) W 27 27 ty 5 (some ⟨g, 0, none⟩) ao 16 16 0 cap Try.underlying27 Try.sizeU8 rfl
      exact this
    · rw [hg]; rfl
  · obtain ⟨b, off, rfl, hb, hc⟩ := q4 (by omega)
    have hl : (u8s (L.take 16)).length = min 16 L.length := by rw [u8s_length, List.length_take]
    have := run_copy_row (P := Try.prog) W 27 27 ty 5 g 0 16 16 ⟨b, off, none⟩ L.length cap (octC fun _ => 0) T (u8s (L.take 16)) Try.underlying27 Try.sizeU8 hg (by rw [hl]; exact Nat.min_comm _ _) ?_ (by rw [octC_size, hl]; omega) ?_
    · rw [hl] at this
      refine ⟨_, this, ?_, setRow_below W g _⟩
      · rw [setRow_heap W g _ _ T _ hg]
        congr 2
        have h := splice_fill L
        rw [← hl]
        simpa [splice] using h
    · intro j v hj
      have hjl : j < (L.take 16).length := by
        have := (List.getElem?_eq_some_iff.1 hj).1
        rwa [u8s_length] at this
      rw [u8s_get _ j hjl] at hj
      cases hj
      rw [List.length_take] at hjl
      rw [Addr.add_lit, hc j (by omega), List.getElem?_take, if_pos (by omega)]
    · intro v hv
      obtain ⟨x, _, rfl⟩ := List.mem_map.1 hv
      rfl
end Go.Proofs.Ytfedmkklpambgaa
