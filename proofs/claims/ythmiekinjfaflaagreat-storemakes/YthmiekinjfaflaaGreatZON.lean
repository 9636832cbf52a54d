/-
  Plain mathematics of the deepest node above all leaves of a set that are below a node. No condition.
-/
import Derived.Test.YthmiekinjfaflaaGreatZO2
namespace Go.Proofs.YthmiekinjfaflaaGreat.M
theorem abv_trans {a b c : Int} (hc : 1 ≤ c) (h1 : abv a b = true) (h2 : abv b c = true) : abv a c = true := by
  obtain ⟨p1, p2⟩ := abv_iff.1 h1
  obtain ⟨q1, q2⟩ := abv_iff.1 h2
  refine abv_iff.2 ⟨by omega, ?_⟩
  rw [← up_up hc (dep_nonneg a) p1 q1, q2, p2]
theorem meet_deep {a b d : Int} (ha : 1 ≤ a) (hb : 1 ≤ b) (h1 : abv d a = true) (h2 : abv d b = true) : abv d (meet a b) = true := by
  obtain ⟨f, f0, f1, f2, f3, f4, f5⟩ := meet_spec ha hb
  obtain ⟨p1, p2⟩ := abv_iff.1 h1
  obtain ⟨q1, q2⟩ := abv_iff.1 h2
  have hd : dep (meet a b) = f := by rw [f3, up_dep ha f0 f1]
  by_cases hf : dep d ≤ f
  · refine abv_iff.2 ⟨by omega, ?_⟩
    rw [f3, up_up ha (dep_nonneg d) hf f1, p2]
  · exfalso
    exact f5 (by omega) (by omega) (up_eq_mono ha hb (by omega) (show f + 1 ≤ dep d by omega) p1 q1 (p2.trans q2.symm))
theorem leaf_abv {h d i : Int} (hk : okB h d = true) (i0 : 0 ≤ i) (ih : i < p2 h) : abv d (p2 h + i) = true ↔ low h d ≤ i ∧ i ≤ high h d := by
  have hh := ok_of hk
  obtain ⟨_, l1, _, l3, l4⟩ := leaf_facts i0 (leafE_yes hh.1 hh.2.1 ih)
  rw [← within_iff hk l1, l3, l4]
theorem up_less {a j k : Int} (ha : 1 ≤ a) (j0 : 0 ≤ j) (hjk : j < k) (hk : k ≤ dep a) : up a j < up a k := by
  have h1 := (up_bd ha j0 (by omega)).2.1
  have h2 := (up_bd ha (show 0 ≤ k by omega) hk).1
  have h3 := p2_mono (show j + 1 ≤ k by omega)
  rw [p2_succ _ j0] at h3
  omega
/-- below n, in short -/
structure Dn (h : Int) (L : List Int) (n : Int) (B : List Int) (b c m : Int) : Prop where
  set : setB h L = true
  ok : okB h n = true
  bel : belV h L n = B
  pos : 0 < B.length
  fst : B[0]?.getD 0 = b
  lst : B[B.length - 1]?.getD 0 = c
  mb : b ∈ B
  mc : c ∈ B
  all : ∀ i ∈ B, i ∈ L ∧ low h n ≤ i ∧ i ≤ high h n ∧ 0 ≤ i ∧ i < p2 h ∧ b ≤ i ∧ i ≤ c
  from' : ∀ i ∈ L, low h n ≤ i → i ≤ high h n → i ∈ B
  ob : okB h (p2 h + b) = true
  oc : okB h (p2 h + c) = true
  db : dep (p2 h + b) = h
  dc : dep (p2 h + c) = h
  meq : meet (p2 h + b) (p2 h + c) = m
  om : okB h m = true
  mab : abv m (p2 h + b) = true
  mac : abv m (p2 h + c) = true
  anm : abv n m = true
theorem dn_mk {h : Int} {L : List Int} {n : Int} (hE : belE h L n = 0) (hp : ¬ (belV h L n).length = 0) :
    Dn h L n (belV h L n) (fstL (belV h L n)) (lstL (belV h L n)) (meet (p2 h + fstL (belV h L n)) (p2 h + lstL (belV h L n))) := by
  obtain ⟨hs, hk, hb⟩ := bel_facts hE
  obtain ⟨s1, s2, s3, s4, s5, s6⟩ := set_of hs
  have eb := belV_yes hE
  have hr : (belV h L n).Pairwise (· < ·) := by rw [eb]; exact s5.filter _
  have hmem : ∀ i, i ∈ belV h L n ↔ i ∈ L ∧ low h n ≤ i ∧ i ≤ high h n := fun i => by rw [eb]; exact belL_mem
  clear eb
  generalize hB : belV h L n = B at *
  have hp0 : 0 < B.length := by omega
  have f0 := hb 0 hp0
  have f1 := hb (B.length - 1) (by omega)
  have m0 : fstL B ∈ B := by unfold fstL; rw [List.getElem?_eq_getElem hp0]; exact List.getElem_mem hp0
  have m1 : lstL B ∈ B := by unfold lstL; rw [List.getElem?_eq_getElem (by omega)]; exact List.getElem_mem _
  have hall : ∀ i ∈ B, fstL B ≤ i ∧ i ≤ lstL B := fun i hi => by
    obtain ⟨a, ha, rfl⟩ := List.mem_iff_getElem.1 hi
    have g1 := getD_rise hr (show 0 ≤ a by omega) ha
    have g2 := getD_rise hr (show a ≤ B.length - 1 by omega) (by omega)
    rw [List.getElem?_eq_getElem ha, Option.getD_some] at g1 g2
    exact ⟨g1, g2⟩
  have e0 := leafE_yes s1 s2 f0.2.2.2.2
  have e1 := leafE_yes s1 s2 f1.2.2.2.2
  obtain ⟨-, o0, d0, -⟩ := leaf_facts f0.2.2.2.1 e0
  obtain ⟨-, o1, d1, -⟩ := leaf_facts f1.2.2.2.1 e1
  have q0 := (ok_of o0).2.2.1
  have q1 := (ok_of o1).2.2.1
  have hm := meet_above q0 q1
  refine ⟨hs, hk, hB, hp0, rfl, rfl, m0, m1, fun i hi => ?_, fun i h1 h2 h3 => (hmem i).2 ⟨h1, h2, h3⟩, o0, o1, d0, d1, rfl, ok_meet o0 o1, hm.2.1, hm.2.2, ?_⟩
  · have g1 := (hmem i).1 hi
    have g2 := s6 i g1.1
    have g3 := hall i hi
    exact ⟨g1.1, g1.2.1, g1.2.2, g2.1, g2.2, g3.1, g3.2⟩
  · exact meet_deep q0 q1 ((leaf_abv hk f0.2.2.2.1 f0.2.2.2.2).2 ⟨f0.2.1, f0.2.2.1⟩) ((leaf_abv hk f1.2.2.2.1 f1.2.2.2.2).2 ⟨f1.2.1, f1.2.2.1⟩)
namespace Dn
variable {h : Int} {L : List Int} {n : Int} {B : List Int} {b c m : Int}
theorem span (D : Dn h L n B b c m) : low h m ≤ b ∧ c ≤ high h m ∧ low h n ≤ low h m ∧ high h m ≤ high h n := by
  have hb := D.all b D.mb
  have hc := D.all c D.mc
  have h1 := (leaf_abv D.om hb.2.2.2.1 hb.2.2.2.2.1).1 D.mab
  have h2 := (leaf_abv D.om hc.2.2.2.1 hc.2.2.2.2.1).1 D.mac
  have h3 := (within_iff D.ok D.om).2 D.anm
  exact ⟨h1.1, h2.2, h3.1, h3.2⟩
/-- d is above all below n, just if it is above m -/
theorem above (D : Dn h L n B b c m) {d : Int} (hd : okB h d = true) : (B.all fun i => abv d (p2 h + i)) = abv d m := by
  rw [Bool.eq_iff_iff, List.all_eq_true]
  have qb := (ok_of D.ob).2.2.1
  have qc := (ok_of D.oc).2.2.1
  constructor
  · intro ha
    rw [← D.meq]
    exact meet_deep qb qc (ha b D.mb) (ha c D.mc)
  · intro hm i hi
    have g := D.all i hi
    have hw := (within_iff hd D.om).2 hm
    have hsp := D.span
    exact (leaf_abv hd g.2.2.2.1 g.2.2.2.2.1).2 ⟨by omega, by omega⟩
theorem deps (D : Dn h L n B b c m) : 0 ≤ dep n ∧ dep n ≤ dep m ∧ dep m ≤ h ∧ up (p2 h + b) (dep m) = m ∧ up (p2 h + b) (dep n) = n := by
  have h1 := abv_iff.1 D.anm
  have h2 := abv_iff.1 D.mab
  have qb := (ok_of D.ob).2.2.1
  rw [D.db] at h2
  have h3 := abv_iff.1 (abv_trans qb D.anm D.mab)
  exact ⟨dep_nonneg n, h1.1, h2.1, h2.2, h3.2⟩
/-- the best one after k rounds -/
def best (h : Int) (n b m : Int) (k : Nat) : Int := up (p2 h + b) (max (dep n) (min ((k : Int) - 1) (dep m)))
theorem best_zero (D : Dn h L n B b c m) : best h n b m 0 = n := by
  obtain ⟨d0, d1, d2, d3, d4⟩ := D.deps
  unfold best
  rw [show max (dep n) (min (((0 : Nat) : Int) - 1) (dep m)) = dep n by omega, d4]
theorem best_end (D : Dn h L n B b c m) {k : Nat} (hk : (k : Int) = h + 1) : best h n b m k = m := by
  obtain ⟨d0, d1, d2, d3, d4⟩ := D.deps
  unfold best
  rw [show max (dep n) (min ((k : Int) - 1) (dep m)) = dep m by omega, d3]
theorem chain_ok (D : Dn h L n B b c m) {k : Nat} (hk : (k : Int) ≤ h) : okB h (up (p2 h + b) k) = true ∧ abv (up (p2 h + b) k) m = decide ((k : Int) ≤ dep m) := by
  obtain ⟨d0, d1, d2, d3, d4⟩ := D.deps
  have qb := (ok_of D.ob).2.2.1
  refine ⟨ok_up D.ob (by omega) (by rw [D.db]; exact hk), ?_⟩
  have hd := up_dep qb (show 0 ≤ (k : Int) by omega) (by rw [D.db]; exact hk)
  rw [Bool.eq_iff_iff, abv_iff, hd, decide_eq_true_eq]
  constructor
  · exact fun h => h.1
  · intro hkm
    refine ⟨hkm, ?_⟩
    conv => lhs; rw [← d3]
    rw [up_up qb (by omega) hkm (by rw [D.db]; exact d2)]
theorem best_yes (D : Dn h L n B b c m) {k : Nat} (hk : (k : Int) ≤ dep m) : best h n b m (k + 1) = if best h n b m k < up (p2 h + b) k then up (p2 h + b) k else best h n b m k := by
  obtain ⟨d0, d1, d2, d3, d4⟩ := D.deps
  have qb := (ok_of D.ob).2.2.1
  unfold best
  by_cases hn : (k : Int) ≤ dep n
  · rw [show max (dep n) (min (((k + 1 : Nat) : Int) - 1) (dep m)) = dep n by omega, show max (dep n) (min ((k : Int) - 1) (dep m)) = dep n by omega, if_neg]
    rcases Int.lt_or_eq_of_le hn with h1 | h1
    · have := up_less qb (show 0 ≤ (k : Int) by omega) h1 (by rw [D.db]; omega)
      omega
    · rw [h1]; omega
  · rw [show max (dep n) (min (((k + 1 : Nat) : Int) - 1) (dep m)) = k by omega, show max (dep n) (min ((k : Int) - 1) (dep m)) = (k : Int) - 1 by omega, if_pos]
    exact up_less qb (by omega) (by omega) (by rw [D.db]; omega)
theorem best_no (D : Dn h L n B b c m) {k : Nat} (hk : ¬ (k : Int) ≤ dep m) : best h n b m (k + 1) = best h n b m k := by
  obtain ⟨d0, d1, d2, d3, d4⟩ := D.deps
  unfold best
  rw [show max (dep n) (min (((k + 1 : Nat) : Int) - 1) (dep m)) = dep m by omega, show max (dep n) (min ((k : Int) - 1) (dep m)) = dep m by omega]
theorem best_bd (D : Dn h L n B b c m) (k : Nat) : 0 ≤ best h n b m k ∧ best h n b m k < 8589934592 := by
  obtain ⟨d0, d1, d2, d3, d4⟩ := D.deps
  have qb := (ok_of D.ob).2.2.1
  have hl := ok_lt D.ob
  have := (up_bd qb (show 0 ≤ max (dep n) (min ((k : Int) - 1) (dep m)) by omega) (by rw [D.db]; omega)).2.2
  have := up_pos qb (show 0 ≤ max (dep n) (min ((k : Int) - 1) (dep m)) by omega) (by rw [D.db]; omega)
  unfold best
  omega
end Dn
end Go.Proofs.YthmiekinjfaflaaGreat.M
namespace Go.Proofs.YthmiekinjfaflaaGreat.M
def Sm (f : Int → Int) : List Int → Int
  | [] => 0
  | x :: t => f x + Sm f t
theorem Sm_append (f : Int → Int) : ∀ A B : List Int, Sm f (A ++ B) = Sm f A + Sm f B
  | [], B => by simp [Sm]
  | a :: t, B => by rw [List.cons_append, Sm, Sm, Sm_append f t B]; omega
theorem Sm_flat (f : Int → Int) (g : Int → List Int) : ∀ X : List Int, Sm f (X.flatMap g) = Sm (fun n => Sm f (g n)) X
  | [] => rfl
  | x :: t => by rw [List.flatMap_cons, Sm_append, Sm_flat f g t]; rfl
theorem Sm_congr {f g : Int → Int} : ∀ {X : List Int}, (∀ x ∈ X, f x = g x) → Sm f X = Sm g X
  | [], _ => rfl
  | x :: t, h => by rw [Sm, Sm, h x (by simp), Sm_congr fun y hy => h y (List.mem_cons_of_mem _ hy)]
theorem Sm_add (f g : Int → Int) : ∀ X : List Int, Sm (fun n => f n + g n) X = Sm f X + Sm g X
  | [] => rfl
  | x :: t => by rw [Sm, Sm, Sm, Sm_add f g t]; omega
theorem Sm_len : ∀ X : List Int, Sm (fun _ => 1) X = X.length
  | [] => rfl
  | x :: t => by rw [Sm, Sm_len t, List.length_cons]; omega
theorem Sm_filter (f : Int → Int) (p : Int → Bool) : ∀ X : List Int, Sm f (X.filter p) = Sm (fun n => if p n = true then f n else 0) X
  | [] => rfl
  | x :: t => by
    rw [List.filter_cons, Sm]
    by_cases hp : p x = true
    · rw [if_pos hp, if_pos hp, Sm, Sm_filter f p t]
    · rw [if_neg hp, if_neg hp, Sm_filter f p t]; omega
theorem Sm_map (f g : Int → Int) : ∀ X : List Int, Sm f (X.map g) = Sm (fun n => f (g n)) X
  | [] => rfl
  | x :: t => by rw [List.map_cons, Sm, Sm, Sm_map f g t]
theorem Sm_nonneg {f : Int → Int} : ∀ {X : List Int}, (∀ x ∈ X, 0 ≤ f x) → 0 ≤ Sm f X
  | [], _ => Int.le_refl _
  | x :: t, h => by
    have h1 := h x (by simp)
    have h2 := Sm_nonneg fun y hy => h y (List.mem_cons_of_mem x hy)
    rw [Sm]; omega
theorem Sm_take {f : Int → Int} {X : List Int} {k : Nat} (hk : k < X.length) : Sm f (X.take (k + 1)) = Sm f (X.take k) + f (X[k]?.getD 0) := by
  rw [take_getD k hk, Sm_append]; simp [Sm]
theorem Sm_part {f : Int → Int} {X : List Int} (h : ∀ x ∈ X, 0 ≤ f x) (k : Nat) : 0 ≤ Sm f (X.take k) ∧ Sm f (X.take k) ≤ Sm f X := by
  have h1 := Sm_nonneg fun y hy => h y (List.mem_of_mem_take (i := k) hy)
  have h2 := Sm_nonneg fun y hy => h y (List.mem_of_mem_drop (i := k) hy)
  have h3 := Sm_append f (X.take k) (X.drop k)
  rw [List.take_append_drop] at h3
  omega
section
variable {h : Int} {L : List Int}
/-- a node of the tree that is no leaf's has a child in it -/
theorem kid_some {n : Int} (hn : inT h L n = true) (hl : n < p2 h) : inT h L (2 * n) = true ∨ inT h L (2 * n + 1) = true := by
  obtain ⟨hk, i, hi, h1⟩ := inT_iff.1 hn
  obtain ⟨c1, c2, c3, c4, c5⟩ := child_span hk hl
  by_cases hi2 : i ≤ high h (2 * n)
  · exact .inl (inT_iff.2 ⟨c4, i, hi, by omega, hi2⟩)
  · exact .inr (inT_iff.2 ⟨c5, i, hi, by omega, by omega⟩)
theorem kid_count {n : Int} (hn : inT h L n = true) : ((kid h L n).length : Int) = (if n < p2 h then 1 else 0) + (if frk h L n = true then 1 else 0) ∧ ((kid h L n).length : Int) + (outk h L n).length = if n < p2 h then 2 else 0 := by
  have hf := @frk_eq h L n
  by_cases hl : n < p2 h
  · have hs := kid_some hn hl
    unfold kid outk
    rw [if_pos hl, if_pos hl, if_pos hl, if_pos hl, hf]
    cases h1 : inT h L (2 * n) <;> cases h2 : inT h L (2 * n + 1) <;> simp [h1, h2] at hs ⊢
  · have hff : frk h L n = false := by
      rw [hf]
      cases h1 : inT h L (2 * n)
      · rfl
      · have := (ok_of (inT_iff.1 h1).1).2.2.2; omega
    unfold kid outk
    rw [if_neg hl, if_neg hl, if_neg hl, if_neg hl, hff]; simp
theorem tree_leaves (hs : setB h L = true) : (tree h L).filter (fun n => decide (p2 h ≤ n)) = L.map (fun i => p2 h + i) := by
  obtain ⟨s1, s2, s3, s4, s5, s6⟩ := set_of hs
  obtain ⟨t1, t2, t3⟩ := tree_facts hs
  refine rising_extL (t1.filter _) (by rw [List.pairwise_map]; exact s5.imp (by intro a b hab; omega)) fun x => ?_
  rw [List.mem_filter, t2, decide_eq_true_eq, List.mem_map]
  constructor
  · rintro ⟨h1, h2⟩
    obtain ⟨hk, i, hi, h3⟩ := inT_iff.1 h1
    have hx := (ok_of hk).2.2.2
    obtain ⟨_, l1, l2, l3, l4⟩ := leaf_facts (show 0 ≤ x - p2 h by omega) (leafE_yes s1 s2 (show x - p2 h < p2 h by omega))
    rw [show p2 h + (x - p2 h) = x by omega] at l3 l4
    exact ⟨i, hi, by omega⟩
  · rintro ⟨i, hi, rfl⟩
    have h0 := s6 i hi
    obtain ⟨_, l1, l2, l3, l4⟩ := leaf_facts h0.1 (leafE_yes s1 s2 h0.2)
    exact ⟨inT_iff.2 ⟨l1, i, hi, by omega, by omega⟩, by omega⟩
theorem counts (hs : setB h L = true) (h0 : L ≠ []) :
    (((tree h L).filter (frk h L)).length : Int) + 1 = L.length ∧ ((tree h L).length : Int) = ((tree h L).flatMap (outk h L)).length + ((tree h L).filter (frk h L)).length + L.length := by
  obtain ⟨t1, t2, t3⟩ := tree_facts hs
  have hl := tree_leaves hs
  have he := tree_eq hs h0
  generalize hT : tree h L = T at *
  have e1 : (T.length : Int) = 1 + Sm (fun n => ((kid h L n).length : Int)) T := by
    have : (T.length : Int) = ((1 :: T.flatMap (kid h L)).length : Int) := by rw [← he]
    rw [this, ← Sm_len, Sm, Sm_flat]
    congr 1
    exact Sm_congr fun x _ => Sm_len _
  have e2 : Sm (fun n => ((kid h L n).length : Int)) T = Sm (fun n => if n < p2 h then 1 else 0) T + Sm (fun n => if frk h L n = true then 1 else 0) T := by
    rw [← Sm_add]; exact Sm_congr fun x hx => (kid_count ((t2 x).1 hx)).1
  have e3 : Sm (fun n => ((kid h L n).length : Int)) T + Sm (fun n => ((outk h L n).length : Int)) T = Sm (fun n => if n < p2 h then 2 else 0) T := by
    rw [← Sm_add]; exact Sm_congr fun x hx => (kid_count ((t2 x).1 hx)).2
  have e4 : ((T.flatMap (outk h L)).length : Int) = Sm (fun n => ((outk h L n).length : Int)) T := by
    rw [← Sm_len, Sm_flat]; exact Sm_congr fun x _ => Sm_len _
  have e5 : ((T.filter (frk h L)).length : Int) = Sm (fun n => if frk h L n = true then 1 else 0) T := by
    rw [← Sm_len, Sm_filter]
  have e6 : (L.length : Int) = Sm (fun n => if decide (p2 h ≤ n) = true then 1 else 0) T := by
    rw [← Sm_filter (fun _ => 1), hl, Sm_len, List.length_map]
  have e7 : (T.length : Int) = Sm (fun n => if n < p2 h then 1 else 0) T + Sm (fun n => if decide (p2 h ≤ n) = true then 1 else 0) T := by
    rw [← Sm_add, ← Sm_len]
    exact Sm_congr fun x _ => by
      by_cases hx : x < p2 h
      · rw [if_pos hx, if_neg (by simp; omega)]; rfl
      · rw [if_neg hx, if_pos (by simp; omega)]; rfl
  have e8 : Sm (fun n => if n < p2 h then 2 else 0) T = 2 * Sm (fun n => if n < p2 h then 1 else 0) T := by
    have := Sm_add (fun n => if n < p2 h then 1 else 0) (fun n => if n < p2 h then 1 else 0) T
    rw [show Sm (fun n => if n < p2 h then 2 else 0) T = Sm (fun n => (if n < p2 h then 1 else 0) + (if n < p2 h then 1 else 0)) T from Sm_congr fun x _ => by split <;> rfl, this]
    omega
  omega
theorem additive (hs : setB h L = true) (h0 : L ≠ []) (f : Int → Int) (hf : ∀ n, okB h n = true → n < p2 h → f n = f (2 * n) + f (2 * n + 1)) :
    Sm f ((tree h L).flatMap (outk h L)) + Sm (fun i => f (p2 h + i)) L = f 1 := by
  obtain ⟨t1, t2, t3⟩ := tree_facts hs
  have hl := tree_leaves hs
  have he := tree_eq hs h0
  generalize hT : tree h L = T at *
  have e1 : Sm f T = f 1 + Sm (fun n => Sm f (kid h L n)) T := by
    rw [← Sm_flat, show f 1 + Sm f (T.flatMap (kid h L)) = Sm f (1 :: T.flatMap (kid h L)) from rfl, ← he]
  have e2 : Sm (fun n => Sm f (kid h L n)) T + Sm (fun n => Sm f (outk h L n)) T = Sm (fun n => if n < p2 h then f n else 0) T := by
    rw [← Sm_add]
    refine Sm_congr fun x hx => ?_
    have hk := (inT_iff.1 ((t2 x).1 hx)).1
    unfold kid outk
    by_cases hx2 : x < p2 h
    · rw [if_pos hx2, if_pos hx2, if_pos hx2, hf x hk hx2]
      cases h1 : inT h L (2 * x) <;> cases h2 : inT h L (2 * x + 1) <;> simp [h1, h2, Sm] <;> omega
    · rw [if_neg hx2, if_neg hx2, if_neg hx2]; rfl
  have e3 : Sm (fun i => f (p2 h + i)) L = Sm (fun n => if decide (p2 h ≤ n) = true then f n else 0) T := by
    rw [← Sm_filter f, hl, Sm_map]
  have e4 : Sm f T = Sm (fun n => if n < p2 h then f n else 0) T + Sm (fun n => if decide (p2 h ≤ n) = true then f n else 0) T := by
    rw [← Sm_add]
    exact Sm_congr fun x _ => by
      by_cases hx : x < p2 h
      · rw [if_pos hx, if_neg (by simp; omega)]; omega
      · rw [if_neg hx, if_pos (by simp; omega)]; omega
  rw [Sm_flat]
  omega
/-- how many leaves a node has, and whether it has one -/
def wid (h n : Int) : Int := high h n - low h n + 1
def hit (h i n : Int) : Int := if low h n ≤ i ∧ i ≤ high h n then 1 else 0
theorem hit_leaf (hs : setB h L = true) (i : Int) : Sm (fun j => hit h i (p2 h + j)) L = if i ∈ L then 1 else 0 := by
  obtain ⟨s1, s2, s3, s4, s5, s6⟩ := set_of hs
  clear hs s3 s4
  induction L with
  | nil => rfl
  | cons a t ih =>
    obtain ⟨p1, p3⟩ := List.pairwise_cons.1 s5
    have h0 := s6 a (by simp)
    obtain ⟨_, _, _, l3, l4⟩ := leaf_facts h0.1 (leafE_yes s1 s2 h0.2)
    rw [Sm, ih p3 fun x hx => s6 x (List.mem_cons_of_mem _ hx)]
    unfold hit
    rw [l3, l4]
    by_cases e : a = i
    · subst e
      have hn : a ∉ t := fun hx => by have := p1 a hx; omega
      rw [if_pos (by omega), if_neg hn, if_pos (by simp)]; rfl
    · rw [if_neg (by omega)]
      by_cases ht : i ∈ t
      · rw [if_pos ht, if_pos (List.mem_cons_of_mem _ ht)]; rfl
      · rw [if_neg ht, if_neg (by simp; exact ⟨fun e2 => e e2.symm, ht⟩)]; rfl
theorem hang_facts (hs : setB h L = true) : (thV h L).Pairwise (· < ·) ∧ (∀ n ∈ thV h L, okB h n = true ∧ belE h L n = 0 ∧ belV h L n = []) ∧ Sm (wid h) (thV h L) + L.length = p2 h ∧
    (∀ i, 0 ≤ i → i < p2 h → Sm (hit h i) (thV h L) = if i ∈ L then 0 else 1) := by
  obtain ⟨s1, s2, s3, s4, s5, s6⟩ := set_of hs
  have hz := setE_zero.2 hs
  have hr1 : okB h 1 = true := by rw [ok_one]; exact ht_mk s1 s2
  have key : ∀ n, okB h n = true → inT h L n = false → okB h n = true ∧ belE h L n = 0 ∧ belV h L n = [] := fun n hk hi => by
    have e := belE_iff.2 ⟨hs, hk⟩
    refine ⟨hk, e, ?_⟩
    rw [inT_bel hk] at hi
    rw [belV_yes e]
    exact List.eq_nil_of_length_eq_zero (by simpa using hi)
  unfold thV
  rw [if_pos hz]
  by_cases hl : L.length = 0
  · rw [if_pos hl]
    have hL : L = [] := List.eq_nil_of_length_eq_zero hl
    subst hL
    refine ⟨by simp, fun n hn => ?_, ?_, fun i i0 i1 => ?_⟩
    · simp at hn; subst hn
      exact key 1 hr1 (by unfold inT; simp)
    · simp only [Sm, wid, low_one, high_one, List.length_nil]; omega
    · simp only [Sm, hit, low_one, high_one]
      rw [if_pos (by omega), if_neg (by simp)]; rfl
  · rw [if_neg hl]
    have h0 : L ≠ [] := fun e => hl (by rw [e]; rfl)
    obtain ⟨t1, t2, t3⟩ := tree_facts hs
    refine ⟨flat_rise (outk_rise1 h L) (outk_two h L) t1, fun n hn => ?_, ?_, fun i i0 i1 => ?_⟩
    · obtain ⟨m, hm, hn⟩ := List.mem_flatMap.1 hn
      obtain ⟨o1, o2, o3⟩ := outk_mem.1 hn
      have hkm := (inT_iff.1 ((t2 m).1 hm)).1
      refine key n ?_ o3
      rcases o2 with rfl | rfl
      · exact (child_span hkm o1).2.2.2.1
      · exact (child_span hkm o1).2.2.2.2
    · have := additive hs h0 (wid h) fun n hk hl => by
        obtain ⟨c1, c2, c3, c4, c5⟩ := child_span hk hl
        unfold wid; omega
      have e : Sm (fun i => wid h (p2 h + i)) L = L.length := by
        rw [← Sm_len]
        refine Sm_congr fun i hi => ?_
        obtain ⟨_, _, _, l3, l4⟩ := leaf_facts (s6 i hi).1 (leafE_yes s1 s2 (s6 i hi).2)
        unfold wid; omega
      have e1 : wid h 1 = p2 h := by unfold wid; rw [low_one, high_one]; omega
      omega
    · have := additive hs h0 (hit h i) fun n hk hl => by
        obtain ⟨c1, c2, c3, c4, c5⟩ := child_span hk hl
        have b1 := low_bd c4
        have b2 := low_bd c5
        unfold hit
        rw [c1, c2]
        by_cases g1 : low h n ≤ i ∧ i ≤ high h (2 * n)
        · rw [if_pos (show low h n ≤ i ∧ i ≤ high h n by omega), if_pos g1, if_neg (by omega)]; rfl
        · by_cases g2 : low h (2 * n + 1) ≤ i ∧ i ≤ high h n
          · rw [if_pos (by omega), if_neg g1, if_pos g2]; rfl
          · rw [if_neg (by omega), if_neg g1, if_neg g2]; rfl
      rw [hit_leaf hs i] at this
      have e1 : hit h i 1 = 1 := by unfold hit; rw [low_one, high_one, if_pos (by omega)]
      rw [e1] at this
      split at this <;> rename_i g
      · rw [if_pos g]; omega
      · rw [if_neg g]; omega
end
end Go.Proofs.YthmiekinjfaflaaGreat.M
namespace Go.Proofs.YthmiekinjfaflaaGreat.M
namespace Dn
variable {h : Int} {L : List Int} {n : Int} {B : List Int} {b c m : Int}
theorem bel_again (D : Dn h L n B b c m) : belE h L m = 0 ∧ belV h L m = B := by
  have e := belE_iff.2 ⟨D.set, D.om⟩
  have en := belE_iff.2 ⟨D.set, D.ok⟩
  refine ⟨e, ?_⟩
  rw [← D.bel, belV_yes e, belV_yes en]
  have hs := D.span
  unfold belL
  refine List.filter_congr fun i hi => ?_
  rw [Bool.eq_iff_iff]
  simp only [Bool.and_eq_true, decide_eq_true_eq]
  constructor
  · intro h1; omega
  · intro h1
    have := D.all i (D.from' i hi h1.1 h1.2)
    omega
theorem dn_zero (D : Dn h L n B b c m) : dnE h L n = 0 ∧ dnV h L n = m ∧ belE h L n = 0 ∧ isV h L n = true := by
  have en := belE_iff.2 ⟨D.set, D.ok⟩
  have hp := D.pos
  have e : dnE h L n = 0 := by unfold dnE; rw [if_pos en, D.bel, if_neg (by omega)]
  refine ⟨e, ?_, en, ?_⟩
  · unfold dnV; rw [if_pos e, D.bel, ← D.meq, ← D.fst, ← D.lst]; rfl
  · unfold isV; rw [D.bel]; simpa using hp
theorem again (D : Dn h L n B b c m) : dnE h L m = 0 ∧ dnV h L m = m := by
  obtain ⟨e1, e2⟩ := D.bel_again
  have hp := D.pos
  have e : dnE h L m = 0 := by unfold dnE; rw [if_pos e1, e2, if_neg (by omega)]
  refine ⟨e, ?_⟩
  unfold dnV
  rw [if_pos e, e2, ← D.meq, ← D.fst, ← D.lst]; rfl
theorem fork (D : Dn h L n B b c m) (hd : dep m ≠ h) : m ∈ (tree h L).filter (frk h L) := by
  obtain ⟨d0, d1, d2, d3, d4⟩ := D.deps
  have hb := D.all b D.mb
  have hc := D.all c D.mc
  have hsp := D.span
  have km := ok_of D.om
  have hl : m < p2 h := by
    have h1 := dep_lt m km.2.2.1
    have h2 := p2_mono (show dep m + 1 ≤ h by omega)
    rw [p2_succ _ (dep_nonneg m)] at h2
    omega
  obtain ⟨c1, c2, c3, c4, c5⟩ := child_span D.om hl
  have qb := (ok_of D.ob).2.2.1
  have qc := (ok_of D.oc).2.2.1
  have n0 := meet_child (s := 0) qb qc (.inl rfl)
  have n1 := meet_child (s := 1) qb qc (.inr rfl)
  rw [D.meq] at n0 n1
  rw [Int.add_zero] at n0
  rw [leaf_abv c4 hb.2.2.2.1 hb.2.2.2.2.1, leaf_abv c4 hc.2.2.2.1 hc.2.2.2.2.1] at n0
  rw [leaf_abv c5 hb.2.2.2.1 hb.2.2.2.2.1, leaf_abv c5 hc.2.2.2.1 hc.2.2.2.2.1] at n1
  have hbc := hb.2.2.2.2.2.2
  have i0 : inT h L (2 * m) = true := inT_iff.2 ⟨c4, b, hb.1, by omega, by omega⟩
  have i1 : inT h L (2 * m + 1) = true := inT_iff.2 ⟨c5, c, hc.1, by omega, by omega⟩
  rw [List.mem_filter, (tree_facts D.set).2.1, frk_eq, i0, i1]
  exact ⟨inT_iff.2 ⟨D.om, b, hb.1, by omega, by omega⟩, rfl⟩
end Dn
theorem with_set {h : Int} {L : List Int} {i : Int} (i0 : 0 ≤ i) (hE : withE h L i = 0) (hl : L.length ≤ 60) : setB h (withL L i) = true := by
  obtain ⟨f0, f1, f2, f3, f4, f5, f6⟩ := withE_zero hE
  obtain ⟨s1, s2, s3, s4, s5, s6⟩ := set_of f4
  have hb := (isB_of f6).2.2
  refine set_mk s1 s2 (by rw [withL_length s5 f1]; omega) (withL_rising s5) fun x hx => ?_
  rcases withL_mem.1 hx with hx | rfl
  · exact s6 x hx
  · omega
theorem Dn.more {h : Int} {L : List Int} {n : Int} {B : List Int} {b c m i : Int} (D : Dn h L n B b c m) (i0 : 0 ≤ i) (hE : withE h L i = 0) (hl : L.length ≤ 60) :
    ∃ m', dnE h (withL L i) n = 0 ∧ dnV h (withL L i) n = m' ∧ okB h m' = true ∧ abv m' m = true := by
  have hs := with_set i0 hE hl
  have e := belE_iff.2 ⟨hs, D.ok⟩
  have hb := D.all b D.mb
  have hc := D.all c D.mc
  have mb : b ∈ belV h (withL L i) n := by rw [belV_yes e]; exact belL_mem.2 ⟨withL_mem.2 (.inl hb.1), hb.2.1, hb.2.2.1⟩
  have mc : c ∈ belV h (withL L i) n := by rw [belV_yes e]; exact belL_mem.2 ⟨withL_mem.2 (.inl hc.1), hc.2.1, hc.2.2.1⟩
  have hp : ¬ (belV h (withL L i) n).length = 0 := by have := List.length_pos_of_mem mb; omega
  have D' := dn_mk e hp
  refine ⟨_, D'.dn_zero.1, D'.dn_zero.2.1, D'.om, ?_⟩
  have hsp := D'.span
  have gb := D'.all b mb
  have gc := D'.all c mc
  rw [← D.meq]
  exact meet_deep (ok_of D.ob).2.2.1 (ok_of D.oc).2.2.1 ((leaf_abv D'.om hb.2.2.2.1 hb.2.2.2.2.1).2 ⟨by omega, by omega⟩) ((leaf_abv D'.om hc.2.2.2.1 hc.2.2.2.2.1).2 ⟨by omega, by omega⟩)
theorem inT_above {h : Int} {L : List Int} {a n : Int} (ha : okB h a = true) (hab : abv a n = true) (hn : inT h L n = true) : inT h L a = true := by
  obtain ⟨k1, i, hi, k2⟩ := inT_iff.1 hn
  have hw := (within_iff ha k1).2 hab
  exact inT_iff.2 ⟨ha, i, hi, by omega, by omega⟩
theorem len_out {A : List Int} (a : Int) (hA : A.Pairwise (· < ·)) : A.length ≤ (A.filter fun x => decide (x ≠ a)).length + 1 := by
  induction A with
  | nil => simp
  | cons x t ih =>
    obtain ⟨h1, h2⟩ := List.pairwise_cons.1 hA
    by_cases e : x = a
    · subst e
      have : t.filter (fun y => decide (y ≠ x)) = t := List.filter_eq_self.2 fun y hy => by have := h1 y hy; simp; omega
      rw [List.filter_cons_of_neg (by simp), this, List.length_cons]
      exact Nat.le_refl _
    · rw [List.filter_cons_of_pos (by simpa using e), List.length_cons, List.length_cons]
      have := ih h2; omega
theorem lev_tail {h d x : Int} {t : List Int} (hs : setB h (x :: t) = true) (ht : setB h t = true) (d0 : 0 ≤ d) (dh : d ≤ h) : (lev h t d).length ≤ (lev h (x :: t) d).length ∧ (lev h (x :: t) d).length ≤ (lev h t d).length + 1 := by
  obtain ⟨s1, s2, s3, s4, s5, s6⟩ := set_of hs
  obtain ⟨a1, a2, a3⟩ := lev_facts hs d0 dh
  obtain ⟨b1, b2, b3⟩ := lev_facts ht d0 dh
  constructor
  · refine rise_len b1 a1 fun y hy => (a2 y).2 ?_
    obtain ⟨g1, g2⟩ := (b2 y).1 hy
    obtain ⟨k1, i, hi, k2⟩ := inT_iff.1 g1
    exact ⟨inT_iff.2 ⟨k1, i, List.mem_cons_of_mem _ hi, k2⟩, g2⟩
  · have h1 := len_out (anc h d x) a1
    have h2 := rise_len (a1.filter fun y => decide (y ≠ anc h d x)) b1 fun y hy => by
      obtain ⟨g0, gne⟩ := List.mem_filter.1 hy
      obtain ⟨g1, g2⟩ := (a2 y).1 g0
      obtain ⟨k1, i, hi, k2⟩ := inT_iff.1 g1
      refine (b2 y).2 ⟨?_, g2⟩
      rcases List.mem_cons.1 hi with rfl | hi
      · have := (anc_iff s1 s2 d0 dh (s6 i (by simp)).1 (s6 i (by simp)).2).2 ⟨k1, g2, k2⟩
        simp only [ne_eq, decide_not, Bool.not_eq_true', decide_eq_false_iff_not] at gne
        exact absurd this.symm gne
      · exact inT_iff.2 ⟨k1, i, hi, k2⟩
    omega
theorem lev_last {h : Int} {L : List Int} (hs : setB h L = true) : (lev h L h).length = L.length := by
  obtain ⟨s1, s2, s3, s4, s5, s6⟩ := set_of hs
  obtain ⟨a1, a2, a3⟩ := lev_facts (d := h) hs (by omega) (Int.le_refl _)
  have : lev h L h = L.map (fun i => p2 h + i) := by
    refine rising_extL a1 (by rw [List.pairwise_map]; exact s5.imp (by intro a b hab; omega)) fun y => ?_
    rw [a2, List.mem_map]
    constructor
    · rintro ⟨g1, g2⟩
      obtain ⟨k1, i, hi, k2⟩ := inT_iff.1 g1
      have hb := dep_le y (ok_of k1).2.2.1
      have hb2 := (ok_of k1).2.2.2
      rw [g2] at hb
      obtain ⟨_, l1, l2, l3, l4⟩ := leaf_facts (show 0 ≤ y - p2 h by omega) (leafE_yes s1 s2 (show y - p2 h < p2 h by omega))
      rw [show p2 h + (y - p2 h) = y by omega] at l3 l4
      exact ⟨i, hi, by omega⟩
    · rintro ⟨i, hi, rfl⟩
      obtain ⟨_, l1, l2, l3, l4⟩ := leaf_facts (s6 i hi).1 (leafE_yes s1 s2 (s6 i hi).2)
      exact ⟨inT_iff.2 ⟨l1, i, hi, by omega, by omega⟩, l2⟩
  rw [this, List.length_map]
theorem tre_tail {h x : Int} {t : List Int} (hs : setB h (x :: t) = true) (ht : setB h t = true) : ∀ k : Nat, (k : Int) ≤ h + 1 → (tre h t k).length ≤ (tre h (x :: t) k).length ∧ (tre h (x :: t) k).length ≤ (tre h t k).length + k
  | 0, _ => by simp [tre]
  | k + 1, hk => by
    obtain ⟨h1, h2⟩ := tre_tail hs ht k (by omega)
    obtain ⟨h3, h4⟩ := lev_tail (d := (k : Int)) hs ht (by omega) (by omega)
    unfold tre
    rw [List.length_append, List.length_append]; omega
theorem tail_set {h x : Int} {t : List Int} (hs : setB h (x :: t) = true) : setB h t = true := by
  obtain ⟨s1, s2, s3, s4, s5, s6⟩ := set_of hs
  rw [List.length_cons] at s3
  exact set_mk s1 s2 (by omega) (List.pairwise_cons.1 s5).2 fun y hy => s6 y (List.mem_cons_of_mem _ hy)
theorem tree_tail {h x : Int} {t : List Int} (hs : setB h (x :: t) = true) : (tree h t).length < (tree h (x :: t)).length ∧ ((tree h (x :: t)).length : Int) ≤ (tree h t).length + h + 1 := by
  have ht := tail_set hs
  have hh := (set_of hs).1
  obtain ⟨h1, h2⟩ := tre_tail hs ht h.toNat (by omega)
  obtain ⟨h3, h4⟩ := lev_tail (d := h) hs ht (by omega) (Int.le_refl _)
  have e1 := lev_last hs
  have e2 := lev_last ht
  rw [List.length_cons] at e1
  have eh : ((h.toNat : Nat) : Int) = h := by omega
  unfold tree tre
  rw [List.length_append, List.length_append, eh]
  omega
theorem inT_tail {h x n : Int} {t : List Int} (hn : inT h t n = true) : inT h (x :: t) n = true := by
  obtain ⟨k1, i, hi, k2⟩ := inT_iff.1 hn
  exact inT_iff.2 ⟨k1, i, List.mem_cons_of_mem _ hi, k2⟩
theorem tre_one (h x : Int) : ∀ k : Nat, (tre h [x] k).length = k
  | 0 => rfl
  | k + 1 => by
    unfold tre lev
    rw [List.length_append, tre_one h x k]; rfl
theorem tree_one {h x : Int} (hs : setB h [x] = true) : ((tree h [x]).length : Int) = h + 1 := by
  have := (set_of hs).1
  unfold tree
  rw [tre_one]; omega
theorem fork_of {h : Int} {L : List Int} (hs : setB h L = true) {f : Int} (hf : f ∈ (tree h L).filter (frk h L)) {s : Int} (h2 : s = 0 ∨ s = 1) : okB h f = true ∧ childE h f s = 0 ∧ childV h f s = 2 * f + s ∧ okB h (2 * f + s) = true ∧ belE h L (2 * f + s) = 0 ∧ isV h L (2 * f + s) = true := by
  obtain ⟨h3, h4⟩ := List.mem_filter.1 hf
  have hk := (inT_iff.1 (((tree_facts hs).2.1 f).1 h3)).1
  rw [frk_eq, Bool.and_eq_true] at h4
  have hl : f < p2 h := by have := (ok_of (inT_iff.1 h4.1).1).2.2.2; omega
  have hc := childE_yes hk h2 hl
  have ho := ok_child hk h2 hl
  obtain ⟨v1, v2⟩ := isV_yes hs ho
  refine ⟨hk, hc, by unfold childV; rw [if_pos hc], ho, v1, ?_⟩
  rw [v2]
  rcases h2 with rfl | rfl
  · rw [Int.add_zero]; exact h4.1
  · exact h4.2
end Go.Proofs.YthmiekinjfaflaaGreat.M
namespace Go.Proofs.YthmiekinjfaflaaGreat.M
/-! ### levels of a tree -/
theorem lev_pow {h d : Int} {L : List Int} (hs : setB h L = true) (d0 : 0 ≤ d) (dh : d ≤ h) : ((lev h L d).length : Int) ≤ p2 d := by
  obtain ⟨a1, a2, a3⟩ := lev_facts hs d0 dh
  have hb : ∀ x ∈ lev h L d, p2 d ≤ x ∧ x < p2 d + p2 d := fun x hx => by
    obtain ⟨g1, g2⟩ := (a2 x).1 hx
    have hk := (ok_of (inT_iff.1 g1).1).2.2.1
    have h1 := dep_le x hk
    have h2 := dep_lt x hk
    rw [g2] at h1 h2
    omega
  have key : ∀ (A : List Int) (lo hi : Int), A.Pairwise (· < ·) → (∀ x ∈ A, lo ≤ x ∧ x < hi) → lo ≤ hi → (A.length : Int) ≤ hi - lo := by
    intro A
    induction A with
    | nil => intro lo hi _ _ h; simp; omega
    | cons x t ih =>
      intro lo hi hp hm hle
      obtain ⟨p1, p3⟩ := List.pairwise_cons.1 hp
      have hx := hm x (by simp)
      have := ih (x + 1) hi p3 (fun y hy => by have := p1 y hy; have := hm y (List.mem_cons_of_mem _ hy); omega) (by omega)
      rw [List.length_cons]; omega
  have := key _ _ _ a1 hb (by have := p2_pos d; omega)
  omega
/-- the first k levels: 2^k - 1 nodes at most -/
theorem tre_pow {h : Int} {L : List Int} (hs : setB h L = true) : ∀ k : Nat, (k : Int) ≤ h + 1 → ((tre h L k).length : Int) ≤ p2 k - 1
  | 0, _ => by have : p2 ((0 : Nat) : Int) = 1 := by decide +kernel
               rw [this]; simp [tre]
  | k + 1, hk => by
    have h1 := tre_pow hs k (by omega)
    have h2 := lev_pow (d := (k : Int)) hs (by omega) (by omega)
    have h3 := p2_succ (k : Int) (by omega)
    unfold tre
    rw [List.length_append, show ((k + 1 : Nat) : Int) = (k : Int) + 1 by omega, h3]; omega
/-- each level more: as many as leaves at most -/
theorem tre_add {h : Int} {L : List Int} (hs : setB h L = true) (k : Nat) : ∀ j : Nat, ((k + j : Nat) : Int) ≤ h + 1 → (tre h L (k + j)).length ≤ (tre h L k).length + j * L.length
  | 0, _ => by simp
  | j + 1, hk => by
    have h1 := tre_add hs k j (by omega)
    have h2 := (lev_facts (d := ((k + j : Nat) : Int)) hs (by omega) (by omega)).2.2
    rw [← Nat.add_assoc]
    show (tre h L (k + j) ++ lev h L ((k + j : Nat) : Int)).length ≤ _
    rw [List.length_append, Nat.succ_mul]; omega
theorem tree_bound {h : Int} {L : List Int} (hs : setB h L = true) (k : Nat) (hk : (k : Int) ≤ h) : ((tree h L).length : Int) ≤ 2 * p2 k - 1 + (h - k) * L.length := by
  obtain ⟨j, hj⟩ : ∃ j : Nat, h.toNat + 1 = (k + 1) + j := ⟨h.toNat - k, by omega⟩
  have hh := (set_of hs).1
  have h1 := tre_add hs (k + 1) j (by omega)
  have h2 := tre_pow hs (k + 1) (by omega)
  have h3 := p2_succ (k : Int) (by omega)
  rw [show ((k + 1 : Nat) : Int) = (k : Int) + 1 by omega, h3] at h2
  unfold tree
  rw [hj]
  have e : (h - k) * (L.length : Int) = ((j * L.length : Nat) : Int) := by
    rw [Int.natCast_mul, show h - (k : Int) = (j : Int) by omega]
  rw [e]; omega
/-- what hangs, in numbers -/
theorem hang_len {h : Int} {L : List Int} (hs : setB h L = true) (h0 : L ≠ []) : ((thV h L).length : Int) = (tree h L).length - 2 * L.length + 1 := by
  obtain ⟨c1, c2⟩ := counts hs h0
  have hne : ¬ L.length = 0 := fun e => h0 (List.eq_nil_of_length_eq_zero e)
  unfold thV
  rw [if_pos (setE_zero.2 hs), if_neg hne]; omega
/-- there hang no more than as many as leaves, times how far the height is above a power that is no more than those -/
theorem hang_bound {h : Int} {L : List Int} (hs : setB h L = true) (h0 : L ≠ []) (k : Nat) (hk : p2 k ≤ L.length) : (k : Int) ≤ h ∧ ((thV h L).length : Int) ≤ L.length * (h - k) := by
  have hh := (set_of hs).1
  have hle : (k : Int) ≤ h := by
    rcases Int.lt_or_le h k with hx | hx
    · exfalso
      have h1 := lev_pow hs (show 0 ≤ h by omega) (Int.le_refl h)
      rw [lev_last hs] at h1
      have h2 := p2_lt (show 0 ≤ h by omega) hx
      omega
    · exact hx
  have h1 := tree_bound hs k hle
  have h2 := hang_len hs h0
  refine ⟨hle, ?_⟩
  rw [Int.mul_comm (h - (k : Int)) (L.length : Int)] at h1
  generalize (L.length : Int) * (h - (k : Int)) = q at *
  omega
/-! ### a leaf more -/
theorem lev_more {h d x : Int} {L M' : List Int} (hs : setB h L = true) (hs' : setB h M' = true) (hm : ∀ j, j ∈ M' ↔ j ∈ L ∨ j = x) (d0 : 0 ≤ d) (dh : d ≤ h) : (lev h L d).length ≤ (lev h M' d).length ∧ (lev h M' d).length ≤ (lev h L d).length + 1 := by
  obtain ⟨s1, s2, s3, s4, s5, s6⟩ := set_of hs'
  obtain ⟨a1, a2, a3⟩ := lev_facts hs' d0 dh
  obtain ⟨b1, b2, b3⟩ := lev_facts hs d0 dh
  constructor
  · refine rise_len b1 a1 fun y hy => (a2 y).2 ?_
    obtain ⟨g1, g2⟩ := (b2 y).1 hy
    obtain ⟨k1, i, hi, k2⟩ := inT_iff.1 g1
    exact ⟨inT_iff.2 ⟨k1, i, (hm i).2 (.inl hi), k2⟩, g2⟩
  · have h1 := len_out (anc h d x) a1
    have h2 := rise_len (a1.filter fun y => decide (y ≠ anc h d x)) b1 fun y hy => by
      obtain ⟨g0, gne⟩ := List.mem_filter.1 hy
      obtain ⟨g1, g2⟩ := (a2 y).1 g0
      obtain ⟨k1, i, hi, k2⟩ := inT_iff.1 g1
      refine (b2 y).2 ⟨?_, g2⟩
      rcases (hm i).1 hi with hi2 | rfl
      · exact inT_iff.2 ⟨k1, i, hi2, k2⟩
      · have := (anc_iff s1 s2 d0 dh (s6 i hi).1 (s6 i hi).2).2 ⟨k1, g2, k2⟩
        simp only [ne_eq, decide_not, Bool.not_eq_true', decide_eq_false_iff_not] at gne
        exact absurd this.symm gne
    omega
theorem tree_more {h x : Int} {L M' : List Int} (hs : setB h L = true) (hs' : setB h M' = true) (hm : ∀ j, j ∈ M' ↔ j ∈ L ∨ j = x) (hl : M'.length = L.length + 1) : (tree h L).length < (tree h M').length ∧ ((tree h M').length : Int) ≤ (tree h L).length + h + 1 := by
  have hh := (set_of hs).1
  have key : ∀ k : Nat, (k : Int) ≤ h + 1 → (tre h L k).length ≤ (tre h M' k).length ∧ (tre h M' k).length ≤ (tre h L k).length + k := by
    intro k
    induction k with
    | zero => intro _; simp [tre]
    | succ k ih =>
      intro hk
      obtain ⟨h1, h2⟩ := ih (by omega)
      obtain ⟨h3, h4⟩ := lev_more (d := (k : Int)) hs hs' hm (by omega) (by omega)
      unfold tre
      rw [List.length_append, List.length_append]; omega
  obtain ⟨h1, h2⟩ := key h.toNat (by omega)
  obtain ⟨h3, h4⟩ := lev_more (d := h) hs hs' hm (by omega) (Int.le_refl _)
  have e1 := lev_last hs
  have e2 := lev_last hs'
  have eh : ((h.toNat : Nat) : Int) = h := by omega
  unfold tree tre
  rw [List.length_append, List.length_append, eh]
  omega
/-- what hangs is out of the tree, and the one above it is in it (or it is Root) -/
theorem hang_mem {h : Int} {L : List Int} (hs : setB h L = true) {c : Int} : c ∈ thV h L ↔ okB h c = true ∧ inT h L c = false ∧ (if L.length = 0 then c = 1 else 2 ≤ c ∧ inT h L (c / 2) = true) := by
  obtain ⟨s1, s2, -⟩ := set_of hs
  unfold thV
  rw [if_pos (setE_zero.2 hs)]
  by_cases hl : L.length = 0
  · rw [if_pos hl, if_pos hl, List.mem_singleton]
    have hL : L = [] := List.eq_nil_of_length_eq_zero hl
    subst hL
    constructor
    · rintro rfl
      exact ⟨by rw [ok_one]; exact ht_mk s1 s2, by unfold inT; simp, rfl⟩
    · exact fun h => h.2.2
  · rw [if_neg hl, if_neg hl, List.mem_flatMap]
    constructor
    · rintro ⟨m, hm, hc⟩
      obtain ⟨o1, o2, o3⟩ := outk_mem.1 hc
      have ht := ((tree_facts hs).2.1 m).1 hm
      have hk := (inT_iff.1 ht).1
      have hm1 := (ok_of hk).2.2.1
      obtain ⟨c1, c2, c3, c4, c5⟩ := child_span hk o1
      refine ⟨by rcases o2 with rfl | rfl; exact c4; exact c5, o3, by omega, ?_⟩
      rw [show c / 2 = m by omega]; exact ht
    · rintro ⟨hk, hi, h2, hp⟩
      have hkk := ok_of hk
      exact ⟨c / 2, ((tree_facts hs).2.1 _).2 hp, outk_mem.2 ⟨by omega, by omega, hi⟩⟩
/-- with a leaf more, each that hung and does not have it hangs still, and that which has it does not -/
theorem hang_kept {h x : Int} {L M' : List Int} (hs : setB h L = true) (hs' : setB h M' = true) (hm : ∀ j, j ∈ M' ↔ j ∈ L ∨ j = x) {c : Int} (hc : c ∈ thV h L) : c ∈ thV h M' ↔ ¬ (low h c ≤ x ∧ x ≤ high h c) := by
  obtain ⟨k1, k2, k3⟩ := (hang_mem hs).1 hc
  have hx : x ∈ M' := (hm x).2 (.inr rfl)
  have hne : ¬ M'.length = 0 := fun e => by rw [List.eq_nil_of_length_eq_zero e] at hx; cases hx
  rw [hang_mem hs', if_neg hne]
  constructor
  · rintro ⟨_, g2, _⟩ hin
    rw [inT_iff.2 ⟨k1, x, hx, hin⟩] at g2; cases g2
  · intro hno
    have g2 : inT h M' c = false := by
      rw [Bool.eq_false_iff]
      intro hi
      obtain ⟨_, i, hi, hin⟩ := inT_iff.1 hi
      rcases (hm i).1 hi with h1 | rfl
      · rw [inT_iff.2 ⟨k1, i, h1, hin⟩] at k2; cases k2
      · exact hno hin
    refine ⟨k1, g2, ?_⟩
    by_cases hl : L.length = 0
    · rw [if_pos hl] at k3
      subst k3
      exfalso
      apply hno
      have := (set_of hs').2.2.2.2.2 x hx
      rw [low_one, high_one]; omega
    · rw [if_neg hl] at k3
      refine ⟨k3.1, ?_⟩
      obtain ⟨p1, i, hi, p2⟩ := inT_iff.1 k3.2
      exact inT_iff.2 ⟨p1, i, (hm i).2 (.inl hi), p2⟩
/-- beside what hangs there is a leaf of the set -/
theorem hang_beside {h : Int} {L : List Int} (hs : setB h L = true) (h0 : L ≠ []) {c : Int} (hc : c ∈ thV h L) : 2 ≤ c ∧ okB h (oth c) = true ∧ inT h L (oth c) = true := by
  obtain ⟨k1, k2, k3⟩ := (hang_mem hs).1 hc
  rw [if_neg (fun e => h0 (List.eq_nil_of_length_eq_zero e))] at k3
  obtain ⟨k3, k4⟩ := k3
  have hkk := ok_of k1
  refine ⟨k3, ok_oth k1 (by omega), ?_⟩
  have hs2 := kid_some k4 (by omega)
  unfold oth
  by_cases he : c % 2 = 0
  · rw [if_pos he]
    rw [show 2 * (c / 2) = c by omega, k2] at hs2
    exact hs2.resolve_left (by decide)
  · rw [if_neg he]
    rw [show 2 * (c / 2) = c - 1 by omega, show c - 1 + 1 = c by omega, k2] at hs2
    exact hs2.resolve_right (by decide)
/-- two that hang have no leaf together -/
theorem hang_apart {h : Int} {L : List Int} (hs : setB h L = true) {a b : Int} (ha : a ∈ thV h L) (hb : b ∈ thV h L) (hne : a ≠ b) : high h a < low h b ∨ high h b < low h a := by
  obtain ⟨a1, a2, a3⟩ := (hang_mem hs).1 ha
  obtain ⟨b1, b2, b3⟩ := (hang_mem hs).1 hb
  have key : ∀ {c d : Int}, okB h c = true → inT h L c = false → okB h d = true → (if L.length = 0 then d = 1 else 2 ≤ d ∧ inT h L (d / 2) = true) → (if L.length = 0 then c = 1 else 2 ≤ c ∧ inT h L (c / 2) = true) → c ≠ d → ¬ abv c d = true := by
    intro c d c1 c2 d1 d3 c3 hcd hab
    by_cases hl : L.length = 0
    · rw [if_pos hl] at c3 d3; omega
    · rw [if_neg hl] at d3
      have hd := abv_iff.1 hab
      have hdl : dep c < dep d := by
        rcases Int.lt_or_le (dep c) (dep d) with h1 | h1
        · exact h1
        · exfalso
          have e : dep c = dep d := by omega
          have := hd.2
          rw [e, up_self] at this
          exact hcd this.symm
      have hdd := (ok_of d1).2.2.1
      have h2 : abv c (d / 2) = true := by
        rw [← up_one (n := d)]
        have h0 := dep_nonneg c
        refine abv_iff.2 ⟨by rw [up_dep hdd (by omega) (by omega)]; omega, ?_⟩
        rw [up_up hdd h0 (by omega) (by omega)]; exact hd.2
      rw [inT_above c1 h2 d3.2] at c2; cases c2
  rw [apart_iff a1 b1]
  exact ⟨key a1 a2 b1 b3 a3 hne, key b1 b2 a1 a3 b3 fun e => hne e.symm⟩
end Go.Proofs.YthmiekinjfaflaaGreat.M
