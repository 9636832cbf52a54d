/-
  Plain mathematics for the laws of layer 10: covers, with a leaf more, and their bound. No condition.
-/
import Derived.Test.YtmicgojojkkkhaaGreatZFU
import Derived.Test.YtmicgojojkkkhaaGreatZI2
namespace Go.Proofs.YtmicgojojkkkhaaGreat.M
theorem lvs_bare {h y : Int} : lvs h y 0 = [(low h y, high h y)] := by unfold lvs; rw [if_pos rfl]
theorem inS_bare {h y i : Int} : inS (lvs h y 0) i = (decide (low h y ≤ i) && decide (i ≤ high h y)) := by rw [lvs_bare]; unfold inS; simp
theorem hit_bare {h y i : Int} : hit h i y = if inS (lvs h y 0) i = true then 1 else 0 := by
  rw [inS_bare]; unfold hit
  by_cases h1 : low h y ≤ i <;> by_cases h2 : i ≤ high h y <;> simp [h1, h2]
theorem has_bare {h y i : Int} (hk : okB h y = true) (hl : leafE h i = 0) : shE h y 0 i = 0 ∧ shV h y 0 i = inS (lvs h y 0) i := sh_yes (sub_mk0 hk) hl
theorem hit_01 (h i : Int) (X : List Int) : 0 ≤ Sm (hit h i) X ∧ Sm (hit h i) X ≤ X.length := by
  induction X with
  | nil => simp [Sm]
  | cons x t ih =>
    have h2 : 0 ≤ hit h i x ∧ hit h i x ≤ 1 := by unfold hit; split <;> omega
    rw [Sm, List.length_cons]; omega
/-- with a leaf more: what is told of the two covers -/
theorem more_facts {h i : Int} {L : List Int} (i0 : 0 ≤ i) (hE : withE h L i = 0) (hl : L.length ≤ 60) :
    setE h L = 0 ∧ setE h (withL L i) = 0 ∧ leafE h i = 0 ∧ 1 ≤ h ∧ h ≤ 32 ∧ (∀ y ∈ thV h L, okB h y = true ∧ decide (y ∈ thV h (withL L i)) = !inS (lvs h y 0) i) ∧ Sm (hit h i) (thV h L) = 1 ∧
      ((thV h L).length : Int) - 1 ≤ (thV h (withL L i)).length ∧ ((thV h (withL L i)).length : Int) ≤ (thV h L).length - 1 + h := by
  obtain ⟨f0, f1, f2, f3, f4, f5, f6⟩ := withE_zero hE
  obtain ⟨s1, s2, s3, s4, s5, s6⟩ := set_of f4
  have hs' := with_set i0 hE hl
  have hb := (isB_of f6).2.2
  have hlen := withL_length s5 f1
  have hni : ¬ i ∈ L := fun hx => by rw [has_iff.2 hx] at f1; cases f1
  have hne : withL L i ≠ [] := fun e => by rw [e] at hlen; simp at hlen
  refine ⟨setE_zero.2 f4, setE_zero.2 hs', leafE_yes s1 s2 hb, s1, s2, fun y hy => ?_, ?_, ?_⟩
  · refine ⟨((hang_mem f4).1 hy).1, ?_⟩
    have hk := hang_kept f4 hs' (fun j => withL_mem) hy
    rw [inS_bare]
    by_cases hx : low h y ≤ i ∧ i ≤ high h y
    · rw [decide_eq_false (fun hm => (hk.1 hm) hx), decide_eq_true hx.1, decide_eq_true hx.2]; rfl
    · rw [decide_eq_true (hk.2 hx)]
      by_cases h1 : low h y ≤ i
      · rw [decide_eq_false (fun h2 => hx ⟨h1, h2⟩), Bool.and_false]; rfl
      · rw [decide_eq_false h1]; rfl
  · rw [(hang_facts f4).2.2.2 i i0 hb, if_neg hni]
  · have h1 := hang_len hs' hne
    have h2 := tree_more f4 hs' (fun j => withL_mem) hlen
    by_cases h0 : L = []
    · subst h0
      have e1 : (thV h []).length = 1 := by unfold thV; rw [if_pos (setE_zero.2 f4)]; rfl
      have e2 : (tree h []).length = 0 := by rw [tree_nil]; rfl
      rw [e2] at h2
      have e3 : (withL [] i) = [i] := by unfold withL; simp
      rw [e3] at h1 hs'
      have e4 := tree_one hs'
      rw [e3, e1]
      simp only [List.length_cons, List.length_nil] at h1
      omega
    · have h3 := hang_len f4 h0
      omega
/-- a cover's bound -/
theorem bound_facts {h : Int} {L : List Int} (hs : setB h L = true) : cntB h L.length = true ∧ bdE h L.length = 0 ∧ ((thV h L).length : Int) ≤ bdV h L.length := by
  obtain ⟨s1, s2, s3, s4, s5, s6⟩ := set_of hs
  obtain ⟨q1, q2, q3, q4⟩ := hang_facts hs
  have hw : 0 ≤ Sm (wid h) (thV h L) := Sm_nonneg fun x hx => by have := low_bd (q2 x hx).1; unfold wid; omega
  have hc := cnt_mk (many := (L.length : Int)) s1 s2 (by omega) (by omega) (by omega)
  refine ⟨hc, by unfold bdE; rw [hc]; rfl, ?_⟩
  unfold bdV
  rw [hc, if_pos rfl]
  by_cases h0 : L = []
  · subst h0
    rw [if_pos (show (([] : List Int).length : Int) = 0 from rfl)]
    unfold thV; rw [if_pos (setE_zero.2 hs)]; simp
  · have hp : 0 < L.length := List.length_pos_iff.2 h0
    rw [if_neg (by omega)]
    have hd := dep_nonneg (L.length : Int)
    obtain ⟨k, hk⟩ : ∃ k : Nat, dep (L.length : Int) = k := ⟨(dep (L.length : Int)).toNat, by omega⟩
    have := (hang_bound hs h0 k (by rw [← hk]; exact dep_le _ (by omega))).2
    rw [hk]; exact this
/-- no two of a cover touch -/
theorem cover_apart {h a b : Int} {L : List Int} (hs : setB h L = true) (ha : a ∈ thV h L) (hb : b ∈ thV h L) (hne : a ≠ b) : toE h a 0 b 0 = 0 ∧ toV h a 0 b 0 = false := by
  have ka := ((hang_mem hs).1 ha).1
  have kb := ((hang_mem hs).1 hb).1
  obtain ⟨e1, e2⟩ := to_yes (sub_mk0 ka) (sub_mk0 kb)
  refine ⟨e1, ?_⟩
  rw [e2, Bool.eq_false_iff]
  intro hm
  have la := low_bd ka
  have lb := low_bd kb
  rw [metB_iff (by rw [lvs_bare]; intro s hs; simp at hs; subst hs; exact la.2.1) (by rw [lvs_bare]; intro s hs; simp at hs; subst hs; exact lb.2.1)] at hm
  obtain ⟨i, hi, hj⟩ := hm
  rw [inS_bare] at hi hj
  simp only [Bool.and_eq_true, decide_eq_true_eq] at hi hj
  have := hang_apart hs ha hb hne
  omega
end Go.Proofs.YtmicgojojkkkhaaGreat.M
