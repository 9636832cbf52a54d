/-
  Plain mathematics for the laws of layer 9: the deepest node again, forks, sets with a leaf more, and one less. No condition.
-/
import Derived.Test.YthmiieiajfghnaaZOP
namespace Go.Proofs.Ythmiieiajfghnaa.M
namespace Dn
variable {h : Int} {L : List Int} {n : Int} {B : List Int} {b c m : Int}
theorem bel_again (D : Dn h L n B b c m) : belE h L m = 0 ∧ belV h L m = B := by
  have e := belE_iff.2 ⟨D.set, D.om⟩
  have en := belE_iff.2 ⟨D.set, D.ok⟩
  refine ⟨e, ?_⟩
  rw [← D.bel, belV_yes e, belV_yes en]
  have hs := D.span
  unfold belL
  refine List.filter_congr fun i hi => ?_
  rw [Bool.eq_iff_iff]
  simp only [Bool.and_eq_true, decide_eq_true_eq]
  constructor
  · intro h1; omega
  · intro h1
    have := D.all i (D.from' i hi h1.1 h1.2)
    omega
theorem dn_zero (D : Dn h L n B b c m) : dnE h L n = 0 ∧ dnV h L n = m ∧ belE h L n = 0 ∧ isV h L n = true := by
  have en := belE_iff.2 ⟨D.set, D.ok⟩
  have hp := D.pos
  have e : dnE h L n = 0 := by unfold dnE; rw [if_pos en, D.bel, if_neg (by omega)]
  refine ⟨e, ?_, en, ?_⟩
  · unfold dnV; rw [if_pos e, D.bel, ← D.meq, ← D.fst, ← D.lst]; rfl
  · unfold isV; rw [D.bel]; simpa using hp
theorem again (D : Dn h L n B b c m) : dnE h L m = 0 ∧ dnV h L m = m := by
  obtain ⟨e1, e2⟩ := D.bel_again
  have hp := D.pos
  have e : dnE h L m = 0 := by unfold dnE; rw [if_pos e1, e2, if_neg (by omega)]
  refine ⟨e, ?_⟩
  unfold dnV
  rw [if_pos e, e2, ← D.meq, ← D.fst, ← D.lst]; rfl
theorem fork (D : Dn h L n B b c m) (hd : dep m ≠ h) : m ∈ (tree h L).filter (frk h L) := by
  obtain ⟨d0, d1, d2, d3, d4⟩ := D.deps
  have hb := D.all b D.mb
  have hc := D.all c D.mc
  have hsp := D.span
  have km := ok_of D.om
  have hl : m < p2 h := by
    have h1 := dep_lt m km.2.2.1
    have h2 := p2_mono (show dep m + 1 ≤ h by omega)
    rw [p2_succ _ (dep_nonneg m)] at h2
    omega
  obtain ⟨c1, c2, c3, c4, c5⟩ := child_span D.om hl
  have qb := (ok_of D.ob).2.2.1
  have qc := (ok_of D.oc).2.2.1
  have n0 := meet_child (s := 0) qb qc (.inl rfl)
  have n1 := meet_child (s := 1) qb qc (.inr rfl)
  rw [D.meq] at n0 n1
  rw [Int.add_zero] at n0
  rw [leaf_abv c4 hb.2.2.2.1 hb.2.2.2.2.1, leaf_abv c4 hc.2.2.2.1 hc.2.2.2.2.1] at n0
  rw [leaf_abv c5 hb.2.2.2.1 hb.2.2.2.2.1, leaf_abv c5 hc.2.2.2.1 hc.2.2.2.2.1] at n1
  have hbc := hb.2.2.2.2.2.2
  have i0 : inT h L (2 * m) = true := inT_iff.2 ⟨c4, b, hb.1, by omega, by omega⟩
  have i1 : inT h L (2 * m + 1) = true := inT_iff.2 ⟨c5, c, hc.1, by omega, by omega⟩
  rw [List.mem_filter, (tree_facts D.set).2.1, frk_eq, i0, i1]
  exact ⟨inT_iff.2 ⟨D.om, b, hb.1, by omega, by omega⟩, rfl⟩
end Dn
theorem with_set {h : Int} {L : List Int} {i : Int} (i0 : 0 ≤ i) (hE : withE h L i = 0) (hl : L.length ≤ 60) : setB h (withL L i) = true := by
  obtain ⟨f0, f1, f2, f3, f4, f5, f6⟩ := withE_zero hE
  obtain ⟨s1, s2, s3, s4, s5, s6⟩ := set_of f4
  have hb := (isB_of f6).2.2
  refine set_mk s1 s2 (by rw [withL_length s5 f1]; omega) (withL_rising s5) fun x hx => ?_
  rcases withL_mem.1 hx with hx | rfl
  · exact s6 x hx
  · omega
theorem Dn.more {h : Int} {L : List Int} {n : Int} {B : List Int} {b c m i : Int} (D : Dn h L n B b c m) (i0 : 0 ≤ i) (hE : withE h L i = 0) (hl : L.length ≤ 60) :
    ∃ m', dnE h (withL L i) n = 0 ∧ dnV h (withL L i) n = m' ∧ okB h m' = true ∧ abv m' m = true := by
  have hs := with_set i0 hE hl
  have e := belE_iff.2 ⟨hs, D.ok⟩
  have hb := D.all b D.mb
  have hc := D.all c D.mc
  have mb : b ∈ belV h (withL L i) n := by rw [belV_yes e]; exact belL_mem.2 ⟨withL_mem.2 (.inl hb.1), hb.2.1, hb.2.2.1⟩
  have mc : c ∈ belV h (withL L i) n := by rw [belV_yes e]; exact belL_mem.2 ⟨withL_mem.2 (.inl hc.1), hc.2.1, hc.2.2.1⟩
  have hp : ¬ (belV h (withL L i) n).length = 0 := by have := List.length_pos_of_mem mb; omega
  have D' := dn_mk e hp
  refine ⟨_, D'.dn_zero.1, D'.dn_zero.2.1, D'.om, ?_⟩
  have hsp := D'.span
  have gb := D'.all b mb
  have gc := D'.all c mc
  rw [← D.meq]
  exact meet_deep (ok_of D.ob).2.2.1 (ok_of D.oc).2.2.1 ((leaf_abv D'.om hb.2.2.2.1 hb.2.2.2.2.1).2 ⟨by omega, by omega⟩) ((leaf_abv D'.om hc.2.2.2.1 hc.2.2.2.2.1).2 ⟨by omega, by omega⟩)
theorem inT_above {h : Int} {L : List Int} {a n : Int} (ha : okB h a = true) (hab : abv a n = true) (hn : inT h L n = true) : inT h L a = true := by
  obtain ⟨k1, i, hi, k2⟩ := inT_iff.1 hn
  have hw := (within_iff ha k1).2 hab
  exact inT_iff.2 ⟨ha, i, hi, by omega, by omega⟩
theorem len_out {A : List Int} (a : Int) (hA : A.Pairwise (· < ·)) : A.length ≤ (A.filter fun x => decide (x ≠ a)).length + 1 := by
  induction A with
  | nil => simp
  | cons x t ih =>
    obtain ⟨h1, h2⟩ := List.pairwise_cons.1 hA
    by_cases e : x = a
    · subst e
      have : t.filter (fun y => decide (y ≠ x)) = t := List.filter_eq_self.2 fun y hy => by have := h1 y hy; simp; omega
      rw [List.filter_cons_of_neg (by simp), this, List.length_cons]
      exact Nat.le_refl _
    · rw [List.filter_cons_of_pos (by simpa using e), List.length_cons, List.length_cons]
      have := ih h2; omega
theorem lev_tail {h d x : Int} {t : List Int} (hs : setB h (x :: t) = true) (ht : setB h t = true) (d0 : 0 ≤ d) (dh : d ≤ h) : (lev h t d).length ≤ (lev h (x :: t) d).length ∧ (lev h (x :: t) d).length ≤ (lev h t d).length + 1 := by
  obtain ⟨s1, s2, s3, s4, s5, s6⟩ := set_of hs
  obtain ⟨a1, a2, a3⟩ := lev_facts hs d0 dh
  obtain ⟨b1, b2, b3⟩ := lev_facts ht d0 dh
  constructor
  · refine rise_len b1 a1 fun y hy => (a2 y).2 ?_
    obtain ⟨g1, g2⟩ := (b2 y).1 hy
    obtain ⟨k1, i, hi, k2⟩ := inT_iff.1 g1
    exact ⟨inT_iff.2 ⟨k1, i, List.mem_cons_of_mem _ hi, k2⟩, g2⟩
  · have h1 := len_out (anc h d x) a1
    have h2 := rise_len (a1.filter fun y => decide (y ≠ anc h d x)) b1 fun y hy => by
      obtain ⟨g0, gne⟩ := List.mem_filter.1 hy
      obtain ⟨g1, g2⟩ := (a2 y).1 g0
      obtain ⟨k1, i, hi, k2⟩ := inT_iff.1 g1
      refine (b2 y).2 ⟨?_, g2⟩
      rcases List.mem_cons.1 hi with rfl | hi
      · have := (anc_iff s1 s2 d0 dh (s6 i (by simp)).1 (s6 i (by simp)).2).2 ⟨k1, g2, k2⟩
        simp only [ne_eq, decide_not, Bool.not_eq_true', decide_eq_false_iff_not] at gne
        exact absurd this.symm gne
      · exact inT_iff.2 ⟨k1, i, hi, k2⟩
    omega
theorem lev_last {h : Int} {L : List Int} (hs : setB h L = true) : (lev h L h).length = L.length := by
  obtain ⟨s1, s2, s3, s4, s5, s6⟩ := set_of hs
  obtain ⟨a1, a2, a3⟩ := lev_facts (d := h) hs (by omega) (Int.le_refl _)
  have : lev h L h = L.map (fun i => p2 h + i) := by
    refine rising_ext a1 (by rw [List.pairwise_map]; exact s5.imp (by intro a b hab; omega)) fun y => ?_
    rw [a2, List.mem_map]
    constructor
    · rintro ⟨g1, g2⟩
      obtain ⟨k1, i, hi, k2⟩ := inT_iff.1 g1
      have hb := dep_le y (ok_of k1).2.2.1
      have hb2 := (ok_of k1).2.2.2
      rw [g2] at hb
      obtain ⟨_, l1, l2, l3, l4⟩ := leaf_facts (show 0 ≤ y - p2 h by omega) (leafE_yes s1 s2 (show y - p2 h < p2 h by omega))
      rw [show p2 h + (y - p2 h) = y by omega] at l3 l4
      exact ⟨i, hi, by omega⟩
    · rintro ⟨i, hi, rfl⟩
      obtain ⟨_, l1, l2, l3, l4⟩ := leaf_facts (s6 i hi).1 (leafE_yes s1 s2 (s6 i hi).2)
      exact ⟨inT_iff.2 ⟨l1, i, hi, by omega, by omega⟩, l2⟩
  rw [this, List.length_map]
theorem tre_tail {h x : Int} {t : List Int} (hs : setB h (x :: t) = true) (ht : setB h t = true) : ∀ k : Nat, (k : Int) ≤ h + 1 → (tre h t k).length ≤ (tre h (x :: t) k).length ∧ (tre h (x :: t) k).length ≤ (tre h t k).length + k
  | 0, _ => by simp [tre]
  | k + 1, hk => by
    obtain ⟨h1, h2⟩ := tre_tail hs ht k (by omega)
    obtain ⟨h3, h4⟩ := lev_tail (d := (k : Int)) hs ht (by omega) (by omega)
    unfold tre
    rw [List.length_append, List.length_append]; omega
theorem tail_set {h x : Int} {t : List Int} (hs : setB h (x :: t) = true) : setB h t = true := by
  obtain ⟨s1, s2, s3, s4, s5, s6⟩ := set_of hs
  rw [List.length_cons] at s3
  exact set_mk s1 s2 (by omega) (List.pairwise_cons.1 s5).2 fun y hy => s6 y (List.mem_cons_of_mem _ hy)
theorem tree_tail {h x : Int} {t : List Int} (hs : setB h (x :: t) = true) : (tree h t).length < (tree h (x :: t)).length ∧ ((tree h (x :: t)).length : Int) ≤ (tree h t).length + h + 1 := by
  have ht := tail_set hs
  have hh := (set_of hs).1
  obtain ⟨h1, h2⟩ := tre_tail hs ht h.toNat (by omega)
  obtain ⟨h3, h4⟩ := lev_tail (d := h) hs ht (by omega) (Int.le_refl _)
  have e1 := lev_last hs
  have e2 := lev_last ht
  rw [List.length_cons] at e1
  have eh : ((h.toNat : Nat) : Int) = h := by omega
  unfold tree tre
  rw [List.length_append, List.length_append, eh]
  omega
theorem inT_tail {h x n : Int} {t : List Int} (hn : inT h t n = true) : inT h (x :: t) n = true := by
  obtain ⟨k1, i, hi, k2⟩ := inT_iff.1 hn
  exact inT_iff.2 ⟨k1, i, List.mem_cons_of_mem _ hi, k2⟩
theorem tre_one (h x : Int) : ∀ k : Nat, (tre h [x] k).length = k
  | 0 => rfl
  | k + 1 => by
    unfold tre lev
    rw [List.length_append, tre_one h x k]; rfl
theorem tree_one {h x : Int} (hs : setB h [x] = true) : ((tree h [x]).length : Int) = h + 1 := by
  have := (set_of hs).1
  unfold tree
  rw [tre_one]; omega
theorem fork_of {h : Int} {L : List Int} (hs : setB h L = true) {f : Int} (hf : f ∈ (tree h L).filter (frk h L)) {s : Int} (h2 : s = 0 ∨ s = 1) : okB h f = true ∧ childE h f s = 0 ∧ childV h f s = 2 * f + s ∧ okB h (2 * f + s) = true ∧ belE h L (2 * f + s) = 0 ∧ isV h L (2 * f + s) = true := by
  obtain ⟨h3, h4⟩ := List.mem_filter.1 hf
  have hk := (inT_iff.1 (((tree_facts hs).2.1 f).1 h3)).1
  rw [frk_eq, Bool.and_eq_true] at h4
  have hl : f < p2 h := by have := (ok_of (inT_iff.1 h4.1).1).2.2.2; omega
  have hc := childE_yes hk h2 hl
  have ho := ok_child hk h2 hl
  obtain ⟨v1, v2⟩ := isV_yes hs ho
  refine ⟨hk, hc, by unfold childV; rw [if_pos hc], ho, v1, ?_⟩
  rw [v2]
  rcases h2 with rfl | rfl
  · rw [Int.add_zero]; exact h4.1
  · exact h4.2
end Go.Proofs.Ythmiieiajfghnaa.M
