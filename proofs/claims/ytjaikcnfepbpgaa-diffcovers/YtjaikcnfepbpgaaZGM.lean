/-
  Plain mathematics of gaps: they rise, no two touch; with the set they are all leaves, each once. No condition.
-/
import Derived.Test.YtjaikcnfepbpgaaZKM
namespace Go.Proofs.Ytjaikcnfepbpgaa.M
def aparts : Int → List (Int × Int) → Bool
  | _, [] => true
  | x, s :: t => decide (x < s.1) && aparts (s.2 + 1) t
def cntS (i : Int) : List (Int × Int) → Nat
  | [] => 0
  | s :: t => (if s.1 ≤ i ∧ i ≤ s.2 then 1 else 0) + cntS i t
theorem aparts_less : ∀ {S : List (Int × Int)} {x y : Int}, aparts x S = true → y ≤ x → aparts y S = true
  | [], _, _, _, _ => rfl
  | s :: t, x, y, h, hy => by
    simp only [aparts, Bool.and_eq_true, decide_eq_true_eq] at h ⊢
    exact ⟨by omega, h.2⟩
theorem gaps_facts : ∀ {L : List Int} {least last : Int}, rise least last L = true → least ≤ last + 1 →
    spans least last (gapsL least last L) = true ∧ many (gapsL least last L) + L.length = last + 1 - least ∧ aparts (least - 1) (gapsL least last L) = true ∧
    ∀ i, cntS i (gapsL least last L) = if least ≤ i ∧ i ≤ last ∧ i ∉ L then 1 else 0
  | [], least, last, _, h => by
    unfold gapsL
    by_cases hl : least ≤ last
    · rw [if_pos hl]
      refine ⟨by simp [spans, hl], by simp [many]; omega, by simp [aparts]; omega, fun i => ?_⟩
      simp [cntS]
    · rw [if_neg hl]
      refine ⟨rfl, by simp [many]; omega, rfl, fun i => ?_⟩
      rw [if_neg (by omega)]; rfl
  | j :: t, least, last, h, hl => by
    simp only [rise, Bool.and_eq_true, decide_eq_true_eq] at h
    obtain ⟨⟨h1, h2⟩, h3⟩ := h
    obtain ⟨g1, g2, g3, g4⟩ := gaps_facts h3 (by omega)
    have hb := (rise_of h3).2
    rw [show j + 1 - 1 = j by omega] at g3
    have hmem : ∀ i, i ∈ t → j < i := fun i hi => by have := (hb i hi).1; omega
    unfold gapsL
    by_cases hlt : least < j
    · rw [if_pos hlt]
      simp only [List.cons_append, List.nil_append]
      refine ⟨?_, ?_, ?_, fun i => ?_⟩
      · simp only [spans, Bool.and_eq_true, decide_eq_true_eq]
        exact ⟨⟨⟨Int.le_refl _, by omega⟩, by omega⟩, spans_less g1 (by omega)⟩
      · simp only [many, List.length_cons]; omega
      · simp only [aparts, Bool.and_eq_true, decide_eq_true_eq]
        exact ⟨by omega, by rw [show j - 1 + 1 = j by omega]; exact g3⟩
      · simp only [cntS, g4 i, List.mem_cons, not_or]
        by_cases c1 : least ≤ i ∧ i ≤ j - 1
        · rw [if_pos c1, if_neg (by omega), if_pos ⟨c1.1, by omega, by omega, fun hi => by have := hmem i hi; omega⟩]
        · rw [if_neg c1]
          by_cases c2 : j + 1 ≤ i ∧ i ≤ last ∧ i ∉ t
          · rw [if_pos c2, if_pos ⟨by omega, c2.2.1, by omega, c2.2.2⟩]
          · rw [if_neg c2, if_neg]
            rintro ⟨a, b, c, d⟩
            exact c2 ⟨by omega, b, d⟩
    · rw [if_neg hlt]
      obtain rfl : least = j := by omega
      simp only [List.nil_append]
      refine ⟨spans_less g1 (by omega), by simp only [List.length_cons]; omega, aparts_less g3 (by omega), fun i => ?_⟩
      rw [g4 i]
      simp only [List.mem_cons, not_or]
      by_cases c2 : least + 1 ≤ i ∧ i ≤ last ∧ i ∉ t
      · rw [if_pos c2, if_pos ⟨by omega, c2.2.1, by omega, c2.2.2⟩]
      · rw [if_neg c2, if_neg]
        rintro ⟨a, b, c, d⟩
        exact c2 ⟨by omega, b, d⟩
theorem aparts_get : ∀ {S : List (Int × Int)} {x : Int}, aparts x S = true → ∀ k, k + 1 < S.length → (S[k]?.getD (0, 0)).2 + 1 < (S[k + 1]?.getD (0, 0)).1
  | [], _, _, k, hk => by simp at hk
  | [s], _, _, k, hk => by simp at hk
  | s :: r :: t, x, h, 0, _ => by
    simp only [aparts, Bool.and_eq_true, decide_eq_true_eq] at h
    simpa using h.2.1
  | s :: r :: t, x, h, k + 1, hk => by
    simp only [aparts, Bool.and_eq_true, decide_eq_true_eq] at h
    have h2 : aparts (s.2 + 1) (r :: t) = true := by simp only [aparts, Bool.and_eq_true, decide_eq_true_eq]; exact h.2
    have := aparts_get h2 k (by simpa using hk)
    simpa using this
theorem all_facts {h : Int} {L : List Int} (hs : setB h L = true) :
    manyE h (gapsL 0 (p2 h - 1) L) = 0 ∧ manyV h (gapsL 0 (p2 h - 1) L) + L.length = p2 h ∧ 0 ≤ manyV h (gapsL 0 (p2 h - 1) L) ∧
    (∀ k, k + 1 < (gapsL 0 (p2 h - 1) L).length → ((gapsL 0 (p2 h - 1) L)[k]?.getD (0, 0)).2 + 1 < ((gapsL 0 (p2 h - 1) L)[k + 1]?.getD (0, 0)).1) ∧
    (∀ i, cntS i (gapsL 0 (p2 h - 1) L) = if 0 ≤ i ∧ i ≤ p2 h - 1 ∧ i ∉ L then 1 else 0) ∧
    (∀ x ∈ gapsL 0 (p2 h - 1) L, 0 ≤ x.1 ∧ x.1 ≤ 4294967295 ∧ 0 ≤ x.2 ∧ x.2 ≤ 4294967295) := by
  obtain ⟨s1, s2, s3, s4, s5, s6⟩ := set_of hs
  have hp := p2_32 s2
  have hp1 := p2_pos h
  obtain ⟨g1, g2, g3, g4⟩ := gaps_facts s4 (by omega)
  have hB : manyB h (gapsL 0 (p2 h - 1) L) = true := by unfold manyB; rw [ht_mk s1 s2, g1]; rfl
  obtain ⟨a1, a2⟩ := manyE_mk hB
  obtain ⟨e1, e2, e3, e4⟩ := ends_ge g1
  refine ⟨a1, by rw [a2]; omega, by rw [a2]; omega, aparts_get g3, g4, fun x hx => ?_⟩
  have := e4 x hx
  omega
end Go.Proofs.Ytjaikcnfepbpgaa.M
