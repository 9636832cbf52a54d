/-
  Plain mathematics for the laws of layer 9: counts over a set's tree. No condition.
-/
import Derived.Test.YthmiieiajfghnaaZO8
import Derived.Test.YthmiieiajfghnaaZON
namespace Go.Proofs.Ythmiieiajfghnaa.M
def Sm (f : Int → Int) : List Int → Int
  | [] => 0
  | x :: t => f x + Sm f t
theorem Sm_append (f : Int → Int) : ∀ A B : List Int, Sm f (A ++ B) = Sm f A + Sm f B
  | [], B => by simp [Sm]
  | a :: t, B => by rw [List.cons_append, Sm, Sm, Sm_append f t B]; omega
theorem Sm_flat (f : Int → Int) (g : Int → List Int) : ∀ X : List Int, Sm f (X.flatMap g) = Sm (fun n => Sm f (g n)) X
  | [] => rfl
  | x :: t => by rw [List.flatMap_cons, Sm_append, Sm_flat f g t]; rfl
theorem Sm_congr {f g : Int → Int} : ∀ {X : List Int}, (∀ x ∈ X, f x = g x) → Sm f X = Sm g X
  | [], _ => rfl
  | x :: t, h => by rw [Sm, Sm, h x (by simp), Sm_congr fun y hy => h y (List.mem_cons_of_mem _ hy)]
theorem Sm_add (f g : Int → Int) : ∀ X : List Int, Sm (fun n => f n + g n) X = Sm f X + Sm g X
  | [] => rfl
  | x :: t => by rw [Sm, Sm, Sm, Sm_add f g t]; omega
theorem Sm_len : ∀ X : List Int, Sm (fun _ => 1) X = X.length
  | [] => rfl
  | x :: t => by rw [Sm, Sm_len t, List.length_cons]; omega
theorem Sm_filter (f : Int → Int) (p : Int → Bool) : ∀ X : List Int, Sm f (X.filter p) = Sm (fun n => if p n = true then f n else 0) X
  | [] => rfl
  | x :: t => by
    rw [List.filter_cons, Sm]
    by_cases hp : p x = true
    · rw [if_pos hp, if_pos hp, Sm, Sm_filter f p t]
    · rw [if_neg hp, if_neg hp, Sm_filter f p t]; omega
theorem Sm_map (f g : Int → Int) : ∀ X : List Int, Sm f (X.map g) = Sm (fun n => f (g n)) X
  | [] => rfl
  | x :: t => by rw [List.map_cons, Sm, Sm, Sm_map f g t]
theorem Sm_nonneg {f : Int → Int} : ∀ {X : List Int}, (∀ x ∈ X, 0 ≤ f x) → 0 ≤ Sm f X
  | [], _ => Int.le_refl _
  | x :: t, h => by
    have h1 := h x (by simp)
    have h2 := Sm_nonneg fun y hy => h y (List.mem_cons_of_mem x hy)
    rw [Sm]; omega
theorem Sm_take {f : Int → Int} {X : List Int} {k : Nat} (hk : k < X.length) : Sm f (X.take (k + 1)) = Sm f (X.take k) + f (X[k]?.getD 0) := by
  rw [take_getD k hk, Sm_append]; simp [Sm]
theorem Sm_part {f : Int → Int} {X : List Int} (h : ∀ x ∈ X, 0 ≤ f x) (k : Nat) : 0 ≤ Sm f (X.take k) ∧ Sm f (X.take k) ≤ Sm f X := by
  have h1 := Sm_nonneg fun y hy => h y (List.mem_of_mem_take (i := k) hy)
  have h2 := Sm_nonneg fun y hy => h y (List.mem_of_mem_drop (i := k) hy)
  have h3 := Sm_append f (X.take k) (X.drop k)
  rw [List.take_append_drop] at h3
  omega
section
variable {h : Int} {L : List Int}
/-- a node of the tree that is no leaf's has a child in it -/
theorem kid_some {n : Int} (hn : inT h L n = true) (hl : n < p2 h) : inT h L (2 * n) = true ∨ inT h L (2 * n + 1) = true := by
  obtain ⟨hk, i, hi, h1⟩ := inT_iff.1 hn
  obtain ⟨c1, c2, c3, c4, c5⟩ := child_span hk hl
  by_cases hi2 : i ≤ high h (2 * n)
  · exact .inl (inT_iff.2 ⟨c4, i, hi, by omega, hi2⟩)
  · exact .inr (inT_iff.2 ⟨c5, i, hi, by omega, by omega⟩)
theorem kid_count {n : Int} (hn : inT h L n = true) : ((kid h L n).length : Int) = (if n < p2 h then 1 else 0) + (if frk h L n = true then 1 else 0) ∧ ((kid h L n).length : Int) + (outk h L n).length = if n < p2 h then 2 else 0 := by
  have hf := @frk_eq h L n
  by_cases hl : n < p2 h
  · have hs := kid_some hn hl
    unfold kid outk
    rw [if_pos hl, if_pos hl, if_pos hl, if_pos hl, hf]
    cases h1 : inT h L (2 * n) <;> cases h2 : inT h L (2 * n + 1) <;> simp [h1, h2] at hs ⊢
  · have hff : frk h L n = false := by
      rw [hf]
      cases h1 : inT h L (2 * n)
      · rfl
      · have := (ok_of (inT_iff.1 h1).1).2.2.2; omega
    unfold kid outk
    rw [if_neg hl, if_neg hl, if_neg hl, if_neg hl, hff]; simp
theorem tree_leaves (hs : setB h L = true) : (tree h L).filter (fun n => decide (p2 h ≤ n)) = L.map (fun i => p2 h + i) := by
  obtain ⟨s1, s2, s3, s4, s5, s6⟩ := set_of hs
  obtain ⟨t1, t2, t3⟩ := tree_facts hs
  refine rising_ext (t1.filter _) (by rw [List.pairwise_map]; exact s5.imp (by intro a b hab; omega)) fun x => ?_
  rw [List.mem_filter, t2, decide_eq_true_eq, List.mem_map]
  constructor
  · rintro ⟨h1, h2⟩
    obtain ⟨hk, i, hi, h3⟩ := inT_iff.1 h1
    have hx := (ok_of hk).2.2.2
    obtain ⟨_, l1, l2, l3, l4⟩ := leaf_facts (show 0 ≤ x - p2 h by omega) (leafE_yes s1 s2 (show x - p2 h < p2 h by omega))
    rw [show p2 h + (x - p2 h) = x by omega] at l3 l4
    exact ⟨i, hi, by omega⟩
  · rintro ⟨i, hi, rfl⟩
    have h0 := s6 i hi
    obtain ⟨_, l1, l2, l3, l4⟩ := leaf_facts h0.1 (leafE_yes s1 s2 h0.2)
    exact ⟨inT_iff.2 ⟨l1, i, hi, by omega, by omega⟩, by omega⟩
theorem counts (hs : setB h L = true) (h0 : L ≠ []) :
    (((tree h L).filter (frk h L)).length : Int) + 1 = L.length ∧ ((tree h L).length : Int) = ((tree h L).flatMap (outk h L)).length + ((tree h L).filter (frk h L)).length + L.length := by
  obtain ⟨t1, t2, t3⟩ := tree_facts hs
  have hl := tree_leaves hs
  have he := tree_eq hs h0
  generalize hT : tree h L = T at *
  have e1 : (T.length : Int) = 1 + Sm (fun n => ((kid h L n).length : Int)) T := by
    have : (T.length : Int) = ((1 :: T.flatMap (kid h L)).length : Int) := by rw [← he]
    rw [this, ← Sm_len, Sm, Sm_flat]
    congr 1
    exact Sm_congr fun x _ => Sm_len _
  have e2 : Sm (fun n => ((kid h L n).length : Int)) T = Sm (fun n => if n < p2 h then 1 else 0) T + Sm (fun n => if frk h L n = true then 1 else 0) T := by
    rw [← Sm_add]; exact Sm_congr fun x hx => (kid_count ((t2 x).1 hx)).1
  have e3 : Sm (fun n => ((kid h L n).length : Int)) T + Sm (fun n => ((outk h L n).length : Int)) T = Sm (fun n => if n < p2 h then 2 else 0) T := by
    rw [← Sm_add]; exact Sm_congr fun x hx => (kid_count ((t2 x).1 hx)).2
  have e4 : ((T.flatMap (outk h L)).length : Int) = Sm (fun n => ((outk h L n).length : Int)) T := by
    rw [← Sm_len, Sm_flat]; exact Sm_congr fun x _ => Sm_len _
  have e5 : ((T.filter (frk h L)).length : Int) = Sm (fun n => if frk h L n = true then 1 else 0) T := by
    rw [← Sm_len, Sm_filter]
  have e6 : (L.length : Int) = Sm (fun n => if decide (p2 h ≤ n) = true then 1 else 0) T := by
    rw [← Sm_filter (fun _ => 1), hl, Sm_len, List.length_map]
  have e7 : (T.length : Int) = Sm (fun n => if n < p2 h then 1 else 0) T + Sm (fun n => if decide (p2 h ≤ n) = true then 1 else 0) T := by
    rw [← Sm_add, ← Sm_len]
    exact Sm_congr fun x _ => by
      by_cases hx : x < p2 h
      · rw [if_pos hx, if_neg (by simp; omega)]; rfl
      · rw [if_neg hx, if_pos (by simp; omega)]; rfl
  have e8 : Sm (fun n => if n < p2 h then 2 else 0) T = 2 * Sm (fun n => if n < p2 h then 1 else 0) T := by
    have := Sm_add (fun n => if n < p2 h then 1 else 0) (fun n => if n < p2 h then 1 else 0) T
    rw [show Sm (fun n => if n < p2 h then 2 else 0) T = Sm (fun n => (if n < p2 h then 1 else 0) + (if n < p2 h then 1 else 0)) T from Sm_congr fun x _ => by split <;> rfl, this]
    omega
  omega
theorem additive (hs : setB h L = true) (h0 : L ≠ []) (f : Int → Int) (hf : ∀ n, okB h n = true → n < p2 h → f n = f (2 * n) + f (2 * n + 1)) :
    Sm f ((tree h L).flatMap (outk h L)) + Sm (fun i => f (p2 h + i)) L = f 1 := by
  obtain ⟨t1, t2, t3⟩ := tree_facts hs
  have hl := tree_leaves hs
  have he := tree_eq hs h0
  generalize hT : tree h L = T at *
  have e1 : Sm f T = f 1 + Sm (fun n => Sm f (kid h L n)) T := by
    rw [← Sm_flat, show f 1 + Sm f (T.flatMap (kid h L)) = Sm f (1 :: T.flatMap (kid h L)) from rfl, ← he]
  have e2 : Sm (fun n => Sm f (kid h L n)) T + Sm (fun n => Sm f (outk h L n)) T = Sm (fun n => if n < p2 h then f n else 0) T := by
    rw [← Sm_add]
    refine Sm_congr fun x hx => ?_
    have hk := (inT_iff.1 ((t2 x).1 hx)).1
    unfold kid outk
    by_cases hx2 : x < p2 h
    · rw [if_pos hx2, if_pos hx2, if_pos hx2, hf x hk hx2]
      cases h1 : inT h L (2 * x) <;> cases h2 : inT h L (2 * x + 1) <;> simp [h1, h2, Sm] <;> omega
    · rw [if_neg hx2, if_neg hx2, if_neg hx2]; rfl
  have e3 : Sm (fun i => f (p2 h + i)) L = Sm (fun n => if decide (p2 h ≤ n) = true then f n else 0) T := by
    rw [← Sm_filter f, hl, Sm_map]
  have e4 : Sm f T = Sm (fun n => if n < p2 h then f n else 0) T + Sm (fun n => if decide (p2 h ≤ n) = true then f n else 0) T := by
    rw [← Sm_add]
    exact Sm_congr fun x _ => by
      by_cases hx : x < p2 h
      · rw [if_pos hx, if_neg (by simp; omega)]; omega
      · rw [if_neg hx, if_pos (by simp; omega)]; omega
  rw [Sm_flat]
  omega
/-- how many leaves a node has, and whether it has one -/
def wid (h n : Int) : Int := high h n - low h n + 1
def hit (h i n : Int) : Int := if low h n ≤ i ∧ i ≤ high h n then 1 else 0
theorem hit_leaf (hs : setB h L = true) (i : Int) : Sm (fun j => hit h i (p2 h + j)) L = if i ∈ L then 1 else 0 := by
  obtain ⟨s1, s2, s3, s4, s5, s6⟩ := set_of hs
  clear hs s3 s4
  induction L with
  | nil => rfl
  | cons a t ih =>
    obtain ⟨p1, p3⟩ := List.pairwise_cons.1 s5
    have h0 := s6 a (by simp)
    obtain ⟨_, _, _, l3, l4⟩ := leaf_facts h0.1 (leafE_yes s1 s2 h0.2)
    rw [Sm, ih p3 fun x hx => s6 x (List.mem_cons_of_mem _ hx)]
    unfold hit
    rw [l3, l4]
    by_cases e : a = i
    · subst e
      have hn : a ∉ t := fun hx => by have := p1 a hx; omega
      rw [if_pos (by omega), if_neg hn, if_pos (by simp)]; rfl
    · rw [if_neg (by omega)]
      by_cases ht : i ∈ t
      · rw [if_pos ht, if_pos (List.mem_cons_of_mem _ ht)]; rfl
      · rw [if_neg ht, if_neg (by simp; exact ⟨fun e2 => e e2.symm, ht⟩)]; rfl
theorem hang_facts (hs : setB h L = true) : (thV h L).Pairwise (· < ·) ∧ (∀ n ∈ thV h L, okB h n = true ∧ belE h L n = 0 ∧ belV h L n = []) ∧ Sm (wid h) (thV h L) + L.length = p2 h ∧
    (∀ i, 0 ≤ i → i < p2 h → Sm (hit h i) (thV h L) = if i ∈ L then 0 else 1) := by
  obtain ⟨s1, s2, s3, s4, s5, s6⟩ := set_of hs
  have hz := setE_zero.2 hs
  have hr1 : okB h 1 = true := by rw [ok_one]; exact ht_mk s1 s2
  have key : ∀ n, okB h n = true → inT h L n = false → okB h n = true ∧ belE h L n = 0 ∧ belV h L n = [] := fun n hk hi => by
    have e := belE_iff.2 ⟨hs, hk⟩
    refine ⟨hk, e, ?_⟩
    rw [inT_bel hk] at hi
    rw [belV_yes e]
    exact List.eq_nil_of_length_eq_zero (by simpa using hi)
  unfold thV
  rw [if_pos hz]
  by_cases hl : L.length = 0
  · rw [if_pos hl]
    have hL : L = [] := List.eq_nil_of_length_eq_zero hl
    subst hL
    refine ⟨by simp, fun n hn => ?_, ?_, fun i i0 i1 => ?_⟩
    · simp at hn; subst hn
      exact key 1 hr1 (by unfold inT; simp)
    · simp only [Sm, wid, low_one, high_one, List.length_nil]; omega
    · simp only [Sm, hit, low_one, high_one]
      rw [if_pos (by omega), if_neg (by simp)]; rfl
  · rw [if_neg hl]
    have h0 : L ≠ [] := fun e => hl (by rw [e]; rfl)
    obtain ⟨t1, t2, t3⟩ := tree_facts hs
    refine ⟨flat_rise (outk_rise1 h L) (outk_two h L) t1, fun n hn => ?_, ?_, fun i i0 i1 => ?_⟩
    · obtain ⟨m, hm, hn⟩ := List.mem_flatMap.1 hn
      obtain ⟨o1, o2, o3⟩ := outk_mem.1 hn
      have hkm := (inT_iff.1 ((t2 m).1 hm)).1
      refine key n ?_ o3
      rcases o2 with rfl | rfl
      · exact (child_span hkm o1).2.2.2.1
      · exact (child_span hkm o1).2.2.2.2
    · have := additive hs h0 (wid h) fun n hk hl => by
        obtain ⟨c1, c2, c3, c4, c5⟩ := child_span hk hl
        unfold wid; omega
      have e : Sm (fun i => wid h (p2 h + i)) L = L.length := by
        rw [← Sm_len]
        refine Sm_congr fun i hi => ?_
        obtain ⟨_, _, _, l3, l4⟩ := leaf_facts (s6 i hi).1 (leafE_yes s1 s2 (s6 i hi).2)
        unfold wid; omega
      have e1 : wid h 1 = p2 h := by unfold wid; rw [low_one, high_one]; omega
      omega
    · have := additive hs h0 (hit h i) fun n hk hl => by
        obtain ⟨c1, c2, c3, c4, c5⟩ := child_span hk hl
        have b1 := low_bd c4
        have b2 := low_bd c5
        unfold hit
        rw [c1, c2]
        by_cases g1 : low h n ≤ i ∧ i ≤ high h (2 * n)
        · rw [if_pos (show low h n ≤ i ∧ i ≤ high h n by omega), if_pos g1, if_neg (by omega)]; rfl
        · by_cases g2 : low h (2 * n + 1) ≤ i ∧ i ≤ high h n
          · rw [if_pos (by omega), if_neg g1, if_pos g2]; rfl
          · rw [if_neg (by omega), if_neg g1, if_neg g2]; rfl
      rw [hit_leaf hs i] at this
      have e1 : hit h i 1 = 1 := by unfold hit; rw [low_one, high_one, if_pos (by omega)]
      rw [e1] at this
      split at this <;> rename_i g
      · rw [if_pos g]; omega
      · rw [if_neg g]; omega
end
end Go.Proofs.Ythmiieiajfghnaa.M
