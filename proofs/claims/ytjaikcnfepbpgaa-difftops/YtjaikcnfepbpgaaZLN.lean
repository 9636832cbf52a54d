/-
  Plain mathematics of sets of leaves, more: what is put in and taken out. No condition.
-/
import Derived.Test.YtjaikcnfepbpgaaZH1
namespace Go.Proofs.Ytjaikcnfepbpgaa.M
theorem withL_length {L : List Int} {i : Int} (h : L.Pairwise (· < ·)) (hi : has L i = false) : (withL L i).length = L.length + 1 := by
  rw [← with_parts h hi]
  simp only [List.length_append, List.length_take, List.length_drop, List.length_cons, List.length_nil]
  have := pos_le L i
  omega
theorem has_iff {L : List Int} {i : Int} : has L i = true ↔ i ∈ L := by unfold has; simp
theorem hasnt_iff {L : List Int} {i : Int} : has L i = false ↔ i ∉ L := by unfold has; simp
theorem isB_of {h i : Int} (hi : isB h i = true) : 1 ≤ h ∧ h ≤ 32 ∧ i < p2 h := by
  unfold isB at hi
  simp only [Bool.and_eq_true, decide_eq_true_eq] at hi
  exact ⟨(ht_of hi.1).1, (ht_of hi.1).2, hi.2⟩
theorem find_mk {h : Int} {L : List Int} {i : Int} (hs : setB h L = true) (hi : isB h i = true) : findE h L i = 0 := by unfold findE; rw [hs, hi]; rfl
theorem with_mk {h : Int} {L : List Int} {i : Int} (hs : setB h L = true) (hi : isB h i = true) (hh : has L i = false) (hl : L.length < 1024) : withE h L i = 0 := by
  unfold withE; rw [if_pos (find_mk hs hi), hh]
  simp; omega
theorem out_mk {h : Int} {L : List Int} {i : Int} (hs : setB h L = true) (hi : isB h i = true) (hh : has L i = true) : outE h L i = 0 := by
  unfold outE; rw [if_pos (find_mk hs hi), hh]; rfl
/-- what is put in: a set, with it in it; taken out again, the set as it was -/
theorem with_facts {h : Int} {L : List Int} {i : Int} (h0 : 0 ≤ i) (hE : withE h L i = 0) (hl : L.length ≤ 60) :
    setB h (withL L i) = true ∧ (withL L i).length = L.length + 1 ∧ has (withL L i) i = true ∧ findE h (withL L i) i = 0 ∧ hasV h (withL L i) i = true ∧ outE h (withL L i) i = 0 ∧ outL (withL L i) i = L ∧ ∀ x ∈ withL L i, 0 ≤ x ∧ x ≤ 18446744073709551615 := by
  obtain ⟨f0, f1, f2, f3, f4, f5, f6⟩ := withE_zero hE
  obtain ⟨s1, s2, s3, s4, s5, s6⟩ := set_of f4
  have hb := (isB_of f6).2.2
  have hp := p2_32 s2
  have hlen := withL_length s5 f1
  have hset : setB h (withL L i) = true := by
    refine set_mk s1 s2 (by omega) (withL_rising s5) fun x hx => ?_
    rcases withL_mem.1 hx with hx | rfl
    · exact s6 x hx
    · exact ⟨h0, hb⟩
  have hhas : has (withL L i) i = true := has_iff.2 (withL_mem.2 (.inr rfl))
  have hf := find_mk hset f6
  refine ⟨hset, hlen, hhas, hf, by unfold hasV; rw [hf, hhas]; rfl, out_mk hset f6 hhas, ?_, ?_⟩
  · refine rising_ext ((withL_rising s5).filter _) s5 fun x => ?_
    unfold outL
    rw [List.mem_filter, withL_mem]
    simp only [decide_eq_true_eq]
    constructor
    · rintro ⟨h1 | h1, h2⟩
      · exact h1
      · exact absurd h1 h2
    · intro hx
      refine ⟨.inl hx, ?_⟩
      rintro rfl
      exact hasnt_iff.1 f1 hx
  · intro x hx
    have := (set_of hset).2.2.2.2.2 x hx
    omega
theorem with_two {h : Int} {L : List Int} {i k : Int} (h0 : 0 ≤ i) (hE : withE h L i = 0) (hK : withE h L k = 0) (hik : i ≠ k) (hl : L.length ≤ 60) : withE h (withL L i) k = 0 ∧ withL (withL L i) k = withL (withL L k) i := by
  obtain ⟨hset, hlen, _⟩ := with_facts h0 hE hl
  obtain ⟨f0, f1, f2, f3, f4, f5, f6⟩ := withE_zero hE
  obtain ⟨g0, g1, g2, g3, g4, g5, g6⟩ := withE_zero hK
  have s5 := (set_of f4).2.2.2.2.1
  refine ⟨with_mk hset g6 ?_ (by omega), ?_⟩
  · rw [hasnt_iff, withL_mem]
    rintro (h1 | h1)
    · exact hasnt_iff.1 g1 h1
    · exact hik h1.symm
  · refine rising_ext (withL_rising (withL_rising s5)) (withL_rising (withL_rising s5)) fun x => ?_
    simp only [withL_mem]
    constructor
    · rintro ((h1 | h1) | h1)
      · exact .inl (.inl h1)
      · exact .inr h1
      · exact .inl (.inr h1)
    · rintro ((h1 | h1) | h1)
      · exact .inl (.inl h1)
      · exact .inr h1
      · exact .inl (.inr h1)
end Go.Proofs.Ytjaikcnfepbpgaa.M
