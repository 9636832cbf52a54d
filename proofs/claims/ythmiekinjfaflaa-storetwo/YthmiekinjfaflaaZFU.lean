/-
  What With, Without and Below answer at every input, in one form, the program's and the document's. Conditions: the slice holds numbers that fit.
-/
import Derived.Test.YthmiekinjfaflaaZH1
import Derived.Test.YthmiekinjfaflaaZLB
namespace Go.Proofs.Ythmiekinjfaflaa
open Go.RowKit
theorem M.withV_yes {h : Int} {L : List Int} {i : Int} (hE : M.withE h L i = 0) : M.withV h L i = M.withL L i := by unfold M.withV; rw [if_pos hE]
theorem M.withV_no {h : Int} {L : List Int} {i : Int} (hE : M.withE h L i ≠ 0) : M.withV h L i = [] := by unfold M.withV; rw [if_neg hE]
theorem M.outV_yes {h : Int} {L : List Int} {i : Int} (hE : M.outE h L i = 0) : M.outV h L i = M.outLf L i := by unfold M.outV; rw [if_pos hE]
theorem M.outV_no {h : Int} {L : List Int} {i : Int} (hE : M.outE h L i ≠ 0) : M.outV h L i = [] := by unfold M.outV; rw [if_neg hE]
theorem M.belV_yes {h : Int} {L : List Int} {n : Int} (hE : M.belE h L n = 0) : M.belV h L n = M.belL (M.low h n) (M.high h n) L := by unfold M.belV; rw [if_pos hE]
theorem M.belV_no {h : Int} {L : List Int} {n : Int} (hE : M.belE h L n ≠ 0) : M.belV h L n = [] ∧ M.belE h L n = 1 := by
  refine ⟨by unfold M.belV; rw [if_neg hE], ?_⟩
  unfold M.belE at hE ⊢
  cases hx : (M.setB h L && M.okB h n)
  · rfl
  · rw [hx] at hE; simp at hE
theorem M.withV_fits {h : Int} {L : List Int} {i : Int} (h0 : 0 ≤ i) : (∀ x ∈ M.withV h L i, 0 ≤ x ∧ x ≤ 4294967296) ∧ (M.withV h L i).length ≤ 1030 := by
  by_cases hE : M.withE h L i = 0
  · rw [M.withV_yes hE]
    obtain ⟨f0, f1, f2, f3, f4, f5, f6⟩ := M.withE_zero hE
    obtain ⟨s1, s2, s3, s4, s5, s6⟩ := M.set_of f4
    have hp := M.p2_32 s2
    have hb := (M.isB_of f6).2.2
    refine ⟨fun x hx => ?_, by rw [M.withL_length s5 f1]; omega⟩
    rcases M.withL_mem.1 hx with hx | rfl
    · have := s6 x hx; omega
    · omega
  · rw [M.withV_no hE]; simp
theorem M.outV_fits {h : Int} {L : List Int} {i : Int} : (∀ x ∈ M.outV h L i, 0 ≤ x ∧ x ≤ 4294967296) ∧ (M.outV h L i).length ≤ 1030 := by
  by_cases hE : M.outE h L i = 0
  · rw [M.outV_yes hE]
    obtain ⟨f0, f1, f2, f3, f4, f6⟩ := M.outE_zero hE
    obtain ⟨s1, s2, s3, s4, s5, s6⟩ := M.set_of f4
    have hp := M.p2_32 s2
    refine ⟨fun x hx => ?_, ?_⟩
    · have := s6 x (List.mem_filter.1 hx).1; omega
    · have : (M.outLf L i).length ≤ L.length := List.length_filter_le _ _
      omega
  · rw [M.outV_no hE]; simp
theorem M.belV_fits {h : Int} {L : List Int} {n : Int} : (∀ x ∈ M.belV h L n, 0 ≤ x ∧ x ≤ 4294967296) ∧ (M.belV h L n).length ≤ 1030 := by
  by_cases hE : M.belE h L n = 0
  · rw [M.belV_yes hE]
    obtain ⟨s1, s2, s3, s4, s5, s6⟩ := M.set_of (M.belE_iff.1 hE).1
    have hp := M.p2_32 s2
    refine ⟨fun x hx => ?_, ?_⟩
    · have := s6 x (List.mem_filter.1 hx).1; omega
    · have : (M.belL (M.low h n) (M.high h n) L).length ≤ L.length := List.length_filter_le _ _
      omega
  · rw [(M.belV_no hE).1]; simp
theorem fits_big {X : List Int} (h : ∀ x ∈ X, 0 ≤ x ∧ x ≤ 4294967296) : ∀ x ∈ X, 0 ≤ x ∧ x ≤ 18446744073709551615 := fun x hx => by have := h x hx; omega
theorem set_fits {X : List Int} {B : Int} {k : Nat} {y : Int} (h : ∀ x ∈ X, 0 ≤ x ∧ x ≤ B) (h0 : 0 ≤ y) (h1 : y ≤ B + 1) : ∀ x ∈ X.set k y, 0 ≤ x ∧ x ≤ B + 1 := by
  intro x hx
  rcases List.mem_or_eq_of_mem_set hx with hx | rfl
  · have := h x hx; omega
  · exact ⟨h0, h1⟩
theorem own_some {w : World} {base : Nat} {e : TypeId} {ao : Option Addr} {n c : Nat} {xs : List Value} (h : w.ownsRow base e 1 (.slice ao n c) n xs) (h0 : 0 < n) : ∃ g, ao = some ⟨g, 0, none⟩ := by
  rcases h.2 with ⟨_, h2⟩ | ⟨g, cap, cur, h1, _⟩
  · omega
  · simp only [Value.slice.injEq] at h1; exact ⟨g, h1.1⟩
theorem own_cell {w : World} {base : Nat} {e : TypeId} {g n c : Nat} {Y : List Int} (h : w.ownsRow base e 1 (.slice (some ⟨g, 0, none⟩) n c) n (u64s Y)) (k : Nat) (hk : k < n) : w.cell? ⟨g, k, none⟩ = some (.int .u64 (Y[k]?.getD 0)) := by
  have hl : Y.length = n := by have := h.1; simpa using this
  rw [h.cellAt k (by omega)]
  unfold u64s
  rw [List.getElem?_map, List.getElem?_eq_getElem (by omega)]
  simp
theorem u64s_set (X : List Int) (k : Nat) (y : Int) : (u64s X).set k (.int .u64 y) = u64s (X.set k y) := by unfold u64s; rw [List.map_set]
end Go.Proofs.Ythmiekinjfaflaa
