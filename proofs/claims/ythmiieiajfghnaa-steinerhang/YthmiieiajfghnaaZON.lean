/-
  Plain mathematics of the deepest node above all leaves of a set that are below a node. No condition.
-/
import Derived.Test.YthmiieiajfghnaaZO6
namespace Go.Proofs.Ythmiieiajfghnaa.M
theorem abv_trans {a b c : Int} (hc : 1 ≤ c) (h1 : abv a b = true) (h2 : abv b c = true) : abv a c = true := by
  obtain ⟨p1, p2⟩ := abv_iff.1 h1
  obtain ⟨q1, q2⟩ := abv_iff.1 h2
  refine abv_iff.2 ⟨by omega, ?_⟩
  rw [← up_up hc (dep_nonneg a) p1 q1, q2, p2]
theorem meet_deep {a b d : Int} (ha : 1 ≤ a) (hb : 1 ≤ b) (h1 : abv d a = true) (h2 : abv d b = true) : abv d (meet a b) = true := by
  obtain ⟨f, f0, f1, f2, f3, f4, f5⟩ := meet_spec ha hb
  obtain ⟨p1, p2⟩ := abv_iff.1 h1
  obtain ⟨q1, q2⟩ := abv_iff.1 h2
  have hd : dep (meet a b) = f := by rw [f3, up_dep ha f0 f1]
  by_cases hf : dep d ≤ f
  · refine abv_iff.2 ⟨by omega, ?_⟩
    rw [f3, up_up ha (dep_nonneg d) hf f1, p2]
  · exfalso
    exact f5 (by omega) (by omega) (up_eq_mono ha hb (by omega) (show f + 1 ≤ dep d by omega) p1 q1 (p2.trans q2.symm))
theorem leaf_abv {h d i : Int} (hk : okB h d = true) (i0 : 0 ≤ i) (ih : i < p2 h) : abv d (p2 h + i) = true ↔ low h d ≤ i ∧ i ≤ high h d := by
  have hh := ok_of hk
  obtain ⟨_, l1, _, l3, l4⟩ := leaf_facts i0 (leafE_yes hh.1 hh.2.1 ih)
  rw [← within_iff hk l1, l3, l4]
theorem up_less {a j k : Int} (ha : 1 ≤ a) (j0 : 0 ≤ j) (hjk : j < k) (hk : k ≤ dep a) : up a j < up a k := by
  have h1 := (up_bd ha j0 (by omega)).2.1
  have h2 := (up_bd ha (show 0 ≤ k by omega) hk).1
  have h3 := p2_mono (show j + 1 ≤ k by omega)
  rw [p2_succ _ j0] at h3
  omega
/-- below n, in short -/
structure Dn (h : Int) (L : List Int) (n : Int) (B : List Int) (b c m : Int) : Prop where
  set : setB h L = true
  ok : okB h n = true
  bel : belV h L n = B
  pos : 0 < B.length
  fst : B[0]?.getD 0 = b
  lst : B[B.length - 1]?.getD 0 = c
  mb : b ∈ B
  mc : c ∈ B
  all : ∀ i ∈ B, i ∈ L ∧ low h n ≤ i ∧ i ≤ high h n ∧ 0 ≤ i ∧ i < p2 h ∧ b ≤ i ∧ i ≤ c
  from' : ∀ i ∈ L, low h n ≤ i → i ≤ high h n → i ∈ B
  ob : okB h (p2 h + b) = true
  oc : okB h (p2 h + c) = true
  db : dep (p2 h + b) = h
  dc : dep (p2 h + c) = h
  meq : meet (p2 h + b) (p2 h + c) = m
  om : okB h m = true
  mab : abv m (p2 h + b) = true
  mac : abv m (p2 h + c) = true
  anm : abv n m = true
theorem dn_mk {h : Int} {L : List Int} {n : Int} (hE : belE h L n = 0) (hp : ¬ (belV h L n).length = 0) :
    Dn h L n (belV h L n) (fstL (belV h L n)) (lstL (belV h L n)) (meet (p2 h + fstL (belV h L n)) (p2 h + lstL (belV h L n))) := by
  obtain ⟨hs, hk, hb⟩ := bel_facts hE
  obtain ⟨s1, s2, s3, s4, s5, s6⟩ := set_of hs
  have eb := belV_yes hE
  have hr : (belV h L n).Pairwise (· < ·) := by rw [eb]; exact s5.filter _
  have hmem : ∀ i, i ∈ belV h L n ↔ i ∈ L ∧ low h n ≤ i ∧ i ≤ high h n := fun i => by rw [eb]; exact belL_mem
  clear eb
  generalize hB : belV h L n = B at *
  have hp0 : 0 < B.length := by omega
  have f0 := hb 0 hp0
  have f1 := hb (B.length - 1) (by omega)
  have m0 : fstL B ∈ B := by unfold fstL; rw [List.getElem?_eq_getElem hp0]; exact List.getElem_mem hp0
  have m1 : lstL B ∈ B := by unfold lstL; rw [List.getElem?_eq_getElem (by omega)]; exact List.getElem_mem _
  have hall : ∀ i ∈ B, fstL B ≤ i ∧ i ≤ lstL B := fun i hi => by
    obtain ⟨a, ha, rfl⟩ := List.mem_iff_getElem.1 hi
    have g1 := getD_rise hr (show 0 ≤ a by omega) ha
    have g2 := getD_rise hr (show a ≤ B.length - 1 by omega) (by omega)
    rw [List.getElem?_eq_getElem ha, Option.getD_some] at g1 g2
    exact ⟨g1, g2⟩
  have e0 := leafE_yes s1 s2 f0.2.2.2.2
  have e1 := leafE_yes s1 s2 f1.2.2.2.2
  obtain ⟨-, o0, d0, -⟩ := leaf_facts f0.2.2.2.1 e0
  obtain ⟨-, o1, d1, -⟩ := leaf_facts f1.2.2.2.1 e1
  have q0 := (ok_of o0).2.2.1
  have q1 := (ok_of o1).2.2.1
  have hm := meet_above q0 q1
  refine ⟨hs, hk, hB, hp0, rfl, rfl, m0, m1, fun i hi => ?_, fun i h1 h2 h3 => (hmem i).2 ⟨h1, h2, h3⟩, o0, o1, d0, d1, rfl, ok_meet o0 o1, hm.2.1, hm.2.2, ?_⟩
  · have g1 := (hmem i).1 hi
    have g2 := s6 i g1.1
    have g3 := hall i hi
    exact ⟨g1.1, g1.2.1, g1.2.2, g2.1, g2.2, g3.1, g3.2⟩
  · exact meet_deep q0 q1 ((leaf_abv hk f0.2.2.2.1 f0.2.2.2.2).2 ⟨f0.2.1, f0.2.2.1⟩) ((leaf_abv hk f1.2.2.2.1 f1.2.2.2.2).2 ⟨f1.2.1, f1.2.2.1⟩)
namespace Dn
variable {h : Int} {L : List Int} {n : Int} {B : List Int} {b c m : Int}
theorem span (D : Dn h L n B b c m) : low h m ≤ b ∧ c ≤ high h m ∧ low h n ≤ low h m ∧ high h m ≤ high h n := by
  have hb := D.all b D.mb
  have hc := D.all c D.mc
  have h1 := (leaf_abv D.om hb.2.2.2.1 hb.2.2.2.2.1).1 D.mab
  have h2 := (leaf_abv D.om hc.2.2.2.1 hc.2.2.2.2.1).1 D.mac
  have h3 := (within_iff D.ok D.om).2 D.anm
  exact ⟨h1.1, h2.2, h3.1, h3.2⟩
/-- d is above all below n, just if it is above m -/
theorem above (D : Dn h L n B b c m) {d : Int} (hd : okB h d = true) : (B.all fun i => abv d (p2 h + i)) = abv d m := by
  rw [Bool.eq_iff_iff, List.all_eq_true]
  have qb := (ok_of D.ob).2.2.1
  have qc := (ok_of D.oc).2.2.1
  constructor
  · intro ha
    rw [← D.meq]
    exact meet_deep qb qc (ha b D.mb) (ha c D.mc)
  · intro hm i hi
    have g := D.all i hi
    have hw := (within_iff hd D.om).2 hm
    have hsp := D.span
    exact (leaf_abv hd g.2.2.2.1 g.2.2.2.2.1).2 ⟨by omega, by omega⟩
theorem deps (D : Dn h L n B b c m) : 0 ≤ dep n ∧ dep n ≤ dep m ∧ dep m ≤ h ∧ up (p2 h + b) (dep m) = m ∧ up (p2 h + b) (dep n) = n := by
  have h1 := abv_iff.1 D.anm
  have h2 := abv_iff.1 D.mab
  have qb := (ok_of D.ob).2.2.1
  rw [D.db] at h2
  have h3 := abv_iff.1 (abv_trans qb D.anm D.mab)
  exact ⟨dep_nonneg n, h1.1, h2.1, h2.2, h3.2⟩
/-- the best one after k rounds -/
def best (h : Int) (n b m : Int) (k : Nat) : Int := up (p2 h + b) (max (dep n) (min ((k : Int) - 1) (dep m)))
theorem best_zero (D : Dn h L n B b c m) : best h n b m 0 = n := by
  obtain ⟨d0, d1, d2, d3, d4⟩ := D.deps
  unfold best
  rw [show max (dep n) (min (((0 : Nat) : Int) - 1) (dep m)) = dep n by omega, d4]
theorem best_end (D : Dn h L n B b c m) {k : Nat} (hk : (k : Int) = h + 1) : best h n b m k = m := by
  obtain ⟨d0, d1, d2, d3, d4⟩ := D.deps
  unfold best
  rw [show max (dep n) (min ((k : Int) - 1) (dep m)) = dep m by omega, d3]
theorem chain_ok (D : Dn h L n B b c m) {k : Nat} (hk : (k : Int) ≤ h) : okB h (up (p2 h + b) k) = true ∧ abv (up (p2 h + b) k) m = decide ((k : Int) ≤ dep m) := by
  obtain ⟨d0, d1, d2, d3, d4⟩ := D.deps
  have qb := (ok_of D.ob).2.2.1
  refine ⟨ok_up D.ob (by omega) (by rw [D.db]; exact hk), ?_⟩
  have hd := up_dep qb (show 0 ≤ (k : Int) by omega) (by rw [D.db]; exact hk)
  rw [Bool.eq_iff_iff, abv_iff, hd, decide_eq_true_eq]
  constructor
  · exact fun h => h.1
  · intro hkm
    refine ⟨hkm, ?_⟩
    conv => lhs; rw [← d3]
    rw [up_up qb (by omega) hkm (by rw [D.db]; exact d2)]
theorem best_yes (D : Dn h L n B b c m) {k : Nat} (hk : (k : Int) ≤ dep m) : best h n b m (k + 1) = if best h n b m k < up (p2 h + b) k then up (p2 h + b) k else best h n b m k := by
  obtain ⟨d0, d1, d2, d3, d4⟩ := D.deps
  have qb := (ok_of D.ob).2.2.1
  unfold best
  by_cases hn : (k : Int) ≤ dep n
  · rw [show max (dep n) (min (((k + 1 : Nat) : Int) - 1) (dep m)) = dep n by omega, show max (dep n) (min ((k : Int) - 1) (dep m)) = dep n by omega, if_neg]
    rcases Int.lt_or_eq_of_le hn with h1 | h1
    · have := up_less qb (show 0 ≤ (k : Int) by omega) h1 (by rw [D.db]; omega)
      omega
    · rw [h1]; omega
  · rw [show max (dep n) (min (((k + 1 : Nat) : Int) - 1) (dep m)) = k by omega, show max (dep n) (min ((k : Int) - 1) (dep m)) = (k : Int) - 1 by omega, if_pos]
    exact up_less qb (by omega) (by omega) (by rw [D.db]; omega)
theorem best_no (D : Dn h L n B b c m) {k : Nat} (hk : ¬ (k : Int) ≤ dep m) : best h n b m (k + 1) = best h n b m k := by
  obtain ⟨d0, d1, d2, d3, d4⟩ := D.deps
  unfold best
  rw [show max (dep n) (min (((k + 1 : Nat) : Int) - 1) (dep m)) = dep m by omega, show max (dep n) (min ((k : Int) - 1) (dep m)) = dep m by omega]
theorem best_bd (D : Dn h L n B b c m) (k : Nat) : 0 ≤ best h n b m k ∧ best h n b m k < 8589934592 := by
  obtain ⟨d0, d1, d2, d3, d4⟩ := D.deps
  have qb := (ok_of D.ob).2.2.1
  have hl := ok_lt D.ob
  have := (up_bd qb (show 0 ≤ max (dep n) (min ((k : Int) - 1) (dep m)) by omega) (by rw [D.db]; omega)).2.2
  have := up_pos qb (show 0 ≤ max (dep n) (min ((k : Int) - 1) (dep m)) by omega) (by rw [D.db]; omega)
  unfold best
  omega
end Dn
end Go.Proofs.Ythmiieiajfghnaa.M
