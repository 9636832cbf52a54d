/-
  Plain mathematics of spans: parts of them, and told twice over. No condition.
-/
import Derived.Test.YtjaikcnfepbpgaaZLM
namespace Go.Proofs.Ytjaikcnfepbpgaa.M
def ends : Int → List (Int × Int) → Int
  | least, [] => least
  | _, s :: t => ends (s.2 + 1) t
theorem spans_append : ∀ (A B : List (Int × Int)) (least last : Int), spans least last (A ++ B) = (spans least last A && spans (ends least A) last B)
  | [], B, least, last => by simp [spans, ends]
  | s :: t, B, least, last => by simp [spans, ends, spans_append t B, Bool.and_assoc]
theorem spans_less : ∀ {S : List (Int × Int)} {least l2 last : Int}, spans least last S = true → l2 ≤ least → spans l2 last S = true
  | [], _, _, _, _, _ => rfl
  | s :: t, least, l2, last, h, hl => by
    simp only [spans, Bool.and_eq_true, decide_eq_true_eq] at h ⊢
    exact ⟨⟨⟨by omega, h.1.1.2⟩, h.1.2⟩, h.2⟩
theorem many_append : ∀ (A B : List (Int × Int)), many (A ++ B) = many A + many B
  | [], B => by simp [many]
  | s :: t, B => by simp only [List.cons_append, many, many_append t B]; omega
theorem ends_ge : ∀ {S : List (Int × Int)} {least last : Int}, spans least last S = true → least ≤ ends least S ∧ least + many S ≤ ends least S ∧ (S.length : Int) ≤ many S ∧ (∀ x ∈ S, least ≤ x.1 ∧ x.1 ≤ x.2 ∧ x.2 ≤ last ∧ x.2 < ends least S)
  | [], least, last, _ => ⟨Int.le_refl _, by simp [many, ends], by simp [many], by simp⟩
  | s :: t, least, last, h => by
    simp only [spans, Bool.and_eq_true, decide_eq_true_eq] at h
    obtain ⟨⟨⟨h1, h2⟩, h3⟩, h4⟩ := h
    obtain ⟨g1, g2, g3, g4⟩ := ends_ge h4
    simp only [ends, many, List.length_cons]
    refine ⟨by omega, by omega, by omega, ?_⟩
    intro x hx
    rcases List.mem_cons.1 hx with rfl | hx
    · exact ⟨h1, h2, h3, by omega⟩
    · have := g4 x hx
      omega
theorem ends_le : ∀ {S : List (Int × Int)} {least last : Int}, spans least last S = true → least ≤ last + 1 → ends least S ≤ last + 1
  | [], least, last, _, h => h
  | s :: t, least, last, h, hl => by
    simp only [spans, Bool.and_eq_true, decide_eq_true_eq] at h
    obtain ⟨⟨⟨h1, h2⟩, h3⟩, h4⟩ := h
    show ends (s.2 + 1) t ≤ last + 1
    exact ends_le h4 (by omega)
theorem manyB_of {h : Int} {S : List (Int × Int)} (hE : manyE h S = 0) : manyB h S = true := by
  unfold manyE at hE
  cases hx : manyB h S
  · rw [hx] at hE; simp at hE
  · rfl
theorem manyE_mk {h : Int} {S : List (Int × Int)} (hB : manyB h S = true) : manyE h S = 0 ∧ manyV h S = many S := by
  unfold manyE manyV; rw [hB]; exact ⟨rfl, rfl⟩
theorem manyE_no {h : Int} {S : List (Int × Int)} (hB : manyB h S = false) : manyE h S = 1 ∧ manyV h S = 0 := by
  unfold manyE manyV; rw [hB]; exact ⟨rfl, rfl⟩
/-- spans, in two parts, and with the first one told again -/
theorem many_facts {h : Int} {S : List (Int × Int)} (hE : manyE h S = 0) (c : Nat) :
    manyE h (S.take c) = 0 ∧ manyE h (S.drop c) = 0 ∧ manyV h (S.take c) + manyV h (S.drop c) = manyV h S ∧ 0 ≤ manyV h (S.take c) ∧ 0 ≤ manyV h (S.drop c) ∧ (S.length : Int) ≤ manyV h S ∧ manyV h S ≤ 4294967296 ∧ (S ≠ [] → manyE h (S ++ [S[0]?.getD (0, 0)]) = 1) ∧ (S = [] → manyV h S = 0) := by
  have hB := manyB_of hE
  have hv := (manyE_mk hB).2
  unfold manyB at hB
  simp only [Bool.and_eq_true] at hB
  obtain ⟨hh, hs⟩ := hB
  obtain ⟨h1, h2⟩ := ht_of hh
  have hp := p2_32 h2
  have hp1 := p2_pos h
  have hcat := hs
  rw [← List.take_append_drop c S, spans_append] at hcat
  simp only [Bool.and_eq_true] at hcat
  obtain ⟨t1, t2⟩ := hcat
  obtain ⟨g1, g2, g3, g4⟩ := ends_ge t1
  obtain ⟨d1, d2, d3, d4⟩ := ends_ge t2
  obtain ⟨e1, e2, e3, e4⟩ := ends_ge hs
  have e5 := ends_le hs (by omega)
  have hT : manyB h (S.take c) = true := by unfold manyB; rw [hh, t1]; rfl
  have hD : manyB h (S.drop c) = true := by unfold manyB; rw [hh, spans_less t2 g1]; rfl
  obtain ⟨a1, a2⟩ := manyE_mk hT
  obtain ⟨b1, b2⟩ := manyE_mk hD
  have hsum : many (S.take c) + many (S.drop c) = many S := by rw [← many_append, List.take_append_drop]
  refine ⟨a1, b1, by rw [a2, b2, hv]; exact hsum, by rw [a2]; omega, by rw [b2]; omega, by rw [hv]; omega, by rw [hv]; omega, ?_, ?_⟩
  · intro hne
    refine (manyE_no ?_).1
    unfold manyB
    rw [hh, spans_append, hs]
    have h0 : 0 < S.length := List.length_pos_iff.2 hne
    have hm : S[0]?.getD (0, 0) ∈ S := by
      have : S[0]?.getD (0, 0) = S[0] := by simp [h0]
      rw [this]; exact List.getElem_mem h0
    have := e4 _ hm
    simp [spans]
    omega
  · rintro rfl; rw [hv]; rfl
end Go.Proofs.Ytjaikcnfepbpgaa.M
