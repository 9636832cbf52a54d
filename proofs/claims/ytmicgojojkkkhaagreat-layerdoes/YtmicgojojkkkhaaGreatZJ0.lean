/-
  Plain mathematics for layer 11: the tops of a set's tree, the deepest node below each, their differences; sums over them. No condition.
-/
import Derived.Test.YtmicgojojkkkhaaGreatZI4
import Derived.Test.YtmicgojojkkkhaaGreatZLM
import Derived.Test.YtmicgojojkkkhaaGreatZON
namespace Go.Proofs.YtmicgojojkkkhaaGreat.M
/-! ### sums over lists of whatever -/
def Sg {α : Type} (f : α → Int) : List α → Int
  | [] => 0
  | x :: t => f x + Sg f t
theorem Sg_append {α : Type} (f : α → Int) : ∀ A B : List α, Sg f (A ++ B) = Sg f A + Sg f B
  | [], B => by simp [Sg]
  | a :: t, B => by rw [List.cons_append, Sg, Sg, Sg_append f t B]; omega
theorem Sg_map {α β : Type} (f : β → Int) (g : α → β) : ∀ X : List α, Sg f (X.map g) = Sg (fun n => f (g n)) X
  | [] => rfl
  | x :: t => by rw [List.map_cons, Sg, Sg, Sg_map f g t]
theorem Sg_congr {α : Type} {f g : α → Int} : ∀ {X : List α}, (∀ x ∈ X, f x = g x) → Sg f X = Sg g X
  | [], _ => rfl
  | x :: t, h => by rw [Sg, Sg, h x (by simp), Sg_congr fun y hy => h y (List.mem_cons_of_mem _ hy)]
theorem Sg_sub {α : Type} (f g : α → Int) : ∀ X : List α, Sg (fun n => f n - g n) X = Sg f X - Sg g X
  | [] => rfl
  | x :: t => by rw [Sg, Sg, Sg, Sg_sub f g t]; omega
theorem Sg_filter {α : Type} (f : α → Int) (p : α → Bool) (h0 : ∀ x, p x = false → f x = 0) : ∀ X : List α, Sg f (X.filter p) = Sg f X
  | [] => rfl
  | x :: t => by
    rw [List.filter_cons, Sg]
    cases hp : p x with
    | true => rw [if_pos rfl, Sg, Sg_filter f p h0 t]
    | false => rw [if_neg (by simp), Sg_filter f p h0 t, h0 x hp]; omega
theorem Sg_nonneg {α : Type} {f : α → Int} : ∀ {X : List α}, (∀ x ∈ X, 0 ≤ f x) → 0 ≤ Sg f X
  | [], _ => Int.le_refl _
  | x :: t, h => by
    have h1 := h x (by simp)
    have h2 := Sg_nonneg fun y hy => h y (List.mem_cons_of_mem x hy)
    rw [Sg]; omega
theorem Sg_len {α : Type} {f : α → Int} : ∀ {X : List α}, (∀ x ∈ X, 1 ≤ f x) → (X.length : Int) ≤ Sg f X
  | [], _ => Int.le_refl _
  | x :: t, h => by
    have h1 := h x (by simp)
    have h2 := Sg_len fun y hy => h y (List.mem_cons_of_mem x hy)
    rw [Sg, List.length_cons]; omega
theorem Sg_one {α : Type} (X : List α) : Sg (fun _ => 1) X = X.length := by
  induction X with
  | nil => rfl
  | cons x t ih => rw [Sg, ih, List.length_cons]; omega
theorem Sg_take {α : Type} {f : α → Int} {X : List α} {k : Nat} {x : α} (hk : X[k]? = some x) : Sg f (X.take (k + 1)) = Sg f (X.take k) + f x := by
  rw [List.take_add_one, hk, Sg_append]; simp [Sg]
theorem Sg_part {α : Type} {f : α → Int} {X : List α} (h : ∀ x ∈ X, 0 ≤ f x) (k : Nat) : 0 ≤ Sg f (X.take k) ∧ Sg f (X.take k) ≤ Sg f X := by
  have h1 := Sg_nonneg fun y hy => h y (List.mem_of_mem_take (i := k) hy)
  have h2 := Sg_nonneg fun y hy => h y (List.mem_of_mem_drop (i := k) hy)
  have h3 := Sg_append f (X.take k) (X.drop k)
  rw [List.take_append_drop] at h3
  omega
theorem Sg_swap {α β : Type} (f : α → β → Int) (X : List α) (Y : List β) : Sg (fun x => Sg (f x) Y) X = Sg (fun y => Sg (fun x => f x y) X) Y := by
  induction X with
  | nil =>
    have : ∀ Y : List β, Sg (fun y => Sg (fun x => f x y) ([] : List α)) Y = 0 := by
      intro Y; induction Y with
      | nil => rfl
      | cons y t ih => rw [Sg, ih]; rfl
    rw [this]; rfl
  | cons x t ih =>
    rw [Sg, ih]
    clear ih
    induction Y with
    | nil => rfl
    | cons y u ih2 => rw [Sg, Sg, Sg, Sg, ← ih2]; omega
/-- a list of different ones, all in another one that is as long: the same sum -/
theorem Sg_inj {α : Type} [DecidableEq α] (g : α → Int) : ∀ A K : List α, A.Nodup → (∀ x ∈ A, x ∈ K) → A.length = K.length → Sg g A = Sg g K
  | [], K, _, _, hl => by rw [List.eq_nil_of_length_eq_zero (l := K) (by simpa using hl.symm)]
  | a :: t, K, hn, hm, hl => by
    obtain ⟨s, u, rfl⟩ := List.append_of_mem (hm a (by simp))
    obtain ⟨n1, n2⟩ := List.nodup_cons.1 hn
    have := Sg_inj g t (s ++ u) n2 (fun x hx => by
      have h1 := hm x (List.mem_cons_of_mem _ hx)
      rw [List.mem_append, List.mem_cons] at h1
      rw [List.mem_append]
      rcases h1 with h1 | h1 | h1
      · exact .inl h1
      · exact absurd (h1 ▸ hx) n1
      · exact .inr h1) (by simp only [List.length_append, List.length_cons] at hl ⊢; omega)
    rw [Sg, this, Sg_append, Sg_append, Sg]; omega
/-! ### tops -/
def kids2 (f : Int) : List Int := [2 * f, 2 * f + 1]
def forks (h : Int) (L : List Int) : List Int := (tree h L).filter (frk h L)
def tops (h : Int) (L : List Int) : List Int := 1 :: (forks h L).flatMap kids2
def dfX (h : Int) (L : List Int) : List Int := (tops h L).filter fun n => decide (dnV h L n ≠ n)
def dfL (h : Int) (L : List Int) : List (Int × Int) := if setE h L = 0 then (if L.length = 0 then [(1, 0)] else (dfX h L).map fun n => (n, dnV h L n)) else []
section
variable {h : Int} {L : List Int}
theorem forks_mem (hs : setB h L = true) {f : Int} : f ∈ forks h L ↔ inT h L (2 * f) = true ∧ inT h L (2 * f + 1) = true := by
  unfold forks
  rw [List.mem_filter, (tree_facts hs).2.1, frk_eq, Bool.and_eq_true]
  constructor
  · exact fun h => h.2
  · intro ⟨h1, h2⟩
    refine ⟨?_, h1, h2⟩
    have k := ok_of (inT_iff.1 h1).1
    have := (inT_up h1 (by omega)).1
    rw [show 2 * f / 2 = f by omega] at this
    exact this
theorem forks_ok (hs : setB h L = true) {f : Int} (hf : f ∈ forks h L) : okB h f = true ∧ f < p2 h ∧ inT h L f = true ∧ 1 ≤ f := by
  obtain ⟨h1, h2⟩ := (forks_mem hs).1 hf
  have k := ok_of (inT_iff.1 h1).1
  have := (inT_up h1 (by omega)).1
  rw [show 2 * f / 2 = f by omega] at this
  exact ⟨(inT_iff.1 this).1, by omega, this, by omega⟩
theorem forks_rise (hs : setB h L = true) : (forks h L).Pairwise (· < ·) := (tree_facts hs).1.filter _
theorem forks_len (hs : setB h L = true) (h0 : L ≠ []) : (forks h L).length + 1 = L.length := by
  have := (counts hs h0).1
  unfold forks; omega
theorem kids2_flat (X : List Int) : (X.flatMap kids2).length = 2 * X.length := by
  induction X with
  | nil => rfl
  | cons x t ih => rw [List.flatMap_cons, List.length_append, ih, List.length_cons]; unfold kids2; simp; omega
theorem tops_len (hs : setB h L = true) (h0 : L ≠ []) : (tops h L).length + 1 = 2 * L.length := by
  have := forks_len hs h0
  unfold tops
  rw [List.length_cons, kids2_flat]; omega
theorem tops_mem {n : Int} : n ∈ tops h L ↔ n = 1 ∨ n / 2 ∈ forks h L := by
  unfold tops
  rw [List.mem_cons, List.mem_flatMap]
  constructor
  · rintro (h1 | ⟨f, hf, hn⟩)
    · exact .inl h1
    · refine .inr ?_
      unfold kids2 at hn
      simp at hn
      rw [show n / 2 = f by omega]; exact hf
  · rintro (h1 | hf)
    · exact .inl h1
    · exact .inr ⟨n / 2, hf, by unfold kids2; simp; omega⟩
theorem tops_rise (hs : setB h L = true) : (tops h L).Pairwise (· < ·) := by
  unfold tops
  rw [List.pairwise_cons]
  refine ⟨fun x hx => ?_, flat_rise (fun n => by unfold kids2; simp; omega) (fun n c hc => by unfold kids2 at hc; simp at hc; omega) (forks_rise hs)⟩
  obtain ⟨f, hf, hn⟩ := List.mem_flatMap.1 hx
  have := (forks_ok hs hf).2.2.2
  unfold kids2 at hn
  simp at hn; omega
theorem tops_in (hs : setB h L = true) (h0 : L ≠ []) {n : Int} (hn : n ∈ tops h L) : inT h L n = true := by
  rcases tops_mem.1 hn with rfl | hf
  · exact inT_root hs h0
  · obtain ⟨h1, h2⟩ := (forks_mem hs).1 hf
    by_cases hp : n % 2 = 0
    · rw [show n = 2 * (n / 2) by omega]; exact h1
    · rw [show n = 2 * (n / 2) + 1 by omega]; exact h2
/-- a node of the tree, and the deepest one above all leaves of the set below it -/
theorem dn_of (hs : setB h L = true) {n : Int} (hn : inT h L n = true) : ∃ B b c, Dn h L n B b c (dnV h L n) := by
  have hk := (inT_iff.1 hn).1
  obtain ⟨e, v⟩ := isV_yes hs hk
  rw [hn] at v
  unfold isV at v
  have hp := of_decide_eq_true v
  have D := dn_mk e (by omega)
  have hv := D.dn_zero.2.1
  rw [← hv] at D
  exact ⟨_, _, _, D⟩
/-- a fork below a node: the deepest one is no deeper -/
theorem fork_deep (hs : setB h L = true) {n f m : Int} {B : List Int} {b c : Int} (D : Dn h L n B b c m) (hf : f ∈ forks h L) (hnf : abv n f = true) : dep m ≤ dep f := by
  obtain ⟨i1, i2⟩ := (forks_mem hs).1 hf
  obtain ⟨kf, fl, -, f1⟩ := forks_ok hs hf
  obtain ⟨c1, c2, c3, c4, c5⟩ := child_span kf fl
  obtain ⟨k1, i, hi, hi1, hi2⟩ := inT_iff.1 i1
  obtain ⟨k2, j, hj, hj1, hj2⟩ := inT_iff.1 i2
  have hw := (within_iff D.ok kf).2 hnf
  have bi := D.all i (D.from' i hi (by omega) (by omega))
  have bj := D.all j (D.from' j hj (by omega) (by omega))
  have hsp := D.span
  have hx : ¬ (high h m < low h (2 * f) ∨ high h (2 * f) < low h m) := by omega
  rw [apart_iff D.om k1] at hx
  by_cases h1 : abv m (2 * f) = true
  · have h3 := abv_iff.1 h1
    have hd : dep (2 * f) = dep f + 1 := by have := child_dep (s := 0) f1 (.inl rfl); rwa [Int.add_zero] at this
    by_cases he : dep m = dep (2 * f)
    · exfalso
      have h4 := h3.2
      rw [he, up_self] at h4
      have h5 : high h m = high h (2 * f) := by rw [h4]
      omega
    · omega
  · by_cases h2 : abv (2 * f) m = true
    · exfalso
      have := (within_iff k1 D.om).2 h2
      omega
    · exact absurd ⟨h1, h2⟩ hx
theorem dv_apart (hs : setB h L = true) (h0 : L ≠ []) {n m : Int} (hn : n ∈ tops h L) (hm : m ∈ tops h L) (hd : dep n < dep m) : dnV h L n ≠ dnV h L m := by
  intro he
  obtain ⟨B, b, c, D⟩ := dn_of hs (tops_in hs h0 hn)
  obtain ⟨B', b', c', D'⟩ := dn_of hs (tops_in hs h0 hm)
  rw [← he] at D'
  have hdn := dep_nonneg n
  have km := ok_of D'.ok
  have k1 := (ok_of D.om).2.2.1
  -- n is above m
  have g1 := abv_iff.1 D.anm
  have g2 := abv_iff.1 D'.anm
  have hnm : abv n m = true := by
    refine abv_iff.2 ⟨by omega, ?_⟩
    rw [← g2.2, up_up k1 hdn (by omega) g2.1, g1.2]
  rcases tops_mem.1 hm with rfl | hf
  · have : dep 1 = 0 := by decide +kernel
    omega
  · have hm2 : 2 ≤ m := by have := (forks_ok hs hf).2.2.2; omega
    have hdm : dep (m / 2) = dep m - 1 := by
      rw [← up_one, up_dep km.2.2.1 (by omega) (by omega)]
    have hnf : abv n (m / 2) = true := by
      refine abv_iff.2 ⟨by omega, ?_⟩
      rw [← up_one, up_up km.2.2.1 hdn (by omega) (by omega)]
      exact (abv_iff.1 hnm).2
    have := fork_deep hs D hf hnf
    omega
theorem dv_inj (hs : setB h L = true) (h0 : L ≠ []) {n m : Int} (hn : n ∈ tops h L) (hm : m ∈ tops h L) (he : dnV h L n = dnV h L m) : n = m := by
  rcases Int.lt_trichotomy (dep n) (dep m) with hd | hd | hd
  · exact absurd he (dv_apart hs h0 hn hm hd)
  · obtain ⟨B, b, c, D⟩ := dn_of hs (tops_in hs h0 hn)
    obtain ⟨B', b', c', D'⟩ := dn_of hs (tops_in hs h0 hm)
    rw [← he] at D'
    rw [← (abv_iff.1 D.anm).2, ← (abv_iff.1 D'.anm).2, hd]
  · exact absurd he.symm (dv_apart hs h0 hm hn hd)
theorem dv_in (hs : setB h L = true) (h0 : L ≠ []) {n : Int} (hn : n ∈ tops h L) : dnV h L n ∈ forks h L ++ L.map (fun i => p2 h + i) := by
  obtain ⟨B, b, c, D⟩ := dn_of hs (tops_in hs h0 hn)
  rw [List.mem_append]
  by_cases hd : dep (dnV h L n) = h
  · refine .inr (List.mem_map.2 ⟨b, (D.all b D.mb).1, ?_⟩)
    have := (abv_iff.1 D.mab).2
    have h5 := up_self (p2 h + b)
    rw [D.db] at h5
    rw [hd, h5] at this
    exact this
  · exact .inl (D.fork hd)
/-- an additive function: what the tops have less what the deepest ones below them have -/
theorem tops_sum (hs : setB h L = true) (h0 : L ≠ []) (f : Int → Int) (hf : ∀ n, okB h n = true → n < p2 h → f n = f (2 * n) + f (2 * n + 1)) :
    Sg (fun n => f n - f (dnV h L n)) (dfX h L) + Sg (fun i => f (p2 h + i)) L = f 1 := by
  have e1 : Sg (fun n => f n - f (dnV h L n)) (dfX h L) = Sg (fun n => f n - f (dnV h L n)) (tops h L) := by
    unfold dfX
    refine Sg_filter _ _ (fun x hx => ?_) _
    have : dnV h L x = x := by simpa using hx
    rw [this]; omega
  have e2 : Sg f (tops h L) = f 1 + Sg f (forks h L) := by
    unfold tops
    rw [Sg]
    congr 1
    have hok := fun n (hn : n ∈ forks h L) => forks_ok hs hn
    revert hok
    induction forks h L with
    | nil => intro _; rfl
    | cons x t ih =>
      intro hok
      rw [List.flatMap_cons, Sg_append, Sg, ih fun n hn => hok n (List.mem_cons_of_mem _ hn)]
      have hx := hok x (by simp)
      rw [hf x hx.1 hx.2.1]
      unfold kids2
      simp [Sg]
  have e3 : Sg (fun n => f (dnV h L n)) (tops h L) = Sg f (forks h L) + Sg (fun i => f (p2 h + i)) L := by
    rw [← Sg_map f (dnV h L), ← Sg_map f (fun i => p2 h + i) L, ← Sg_append]
    refine Sg_inj f _ _ ?_ (fun x hx => ?_) ?_
    · have hr := tops_rise hs
      refine List.pairwise_map.2 (List.Pairwise.imp_of_mem ?_ hr)
      intro a b ha hb hab he
      have := dv_inj hs h0 ha hb he
      omega
    · obtain ⟨n, hn, rfl⟩ := List.mem_map.1 hx
      exact dv_in hs h0 hn
    · have := tops_len hs h0
      have := forks_len hs h0
      simp only [List.length_map, List.length_append]; omega
  rw [e1, Sg_sub, e2, e3]; omega
end
end Go.Proofs.YtmicgojojkkkhaaGreat.M
namespace Go.Proofs.YtmicgojojkkkhaaGreat.M
/-- there is a bound, and which -/
def dbV (h many : Int) : Int := if cntB h many then (if many = 0 then 1 else 2 * many - 1) else 0
/-- a leaf's being in a subset, as a number; a subset's leaves -/
def inN (h i : Int) (s : Int × Int) : Int := if inS (lvs h s.1 s.2) i = true then 1 else 0
def mnN (h : Int) (s : Int × Int) : Int := manyV h (lvs h s.1 s.2)
section
variable {h : Int} {L : List Int}
theorem dfL_no (hs : ¬ setE h L = 0) : dfL h L = [] := by unfold dfL; rw [if_neg hs]
theorem dfL_nil (hs : setB h [] = true) : dfL h [] = [(1, 0)] := by unfold dfL; rw [if_pos (setE_zero.2 hs)]; rfl
theorem dfL_yes (hs : setB h L = true) (h0 : L ≠ []) : dfL h L = (dfX h L).map fun n => (n, dnV h L n) := by
  unfold dfL
  rw [if_pos (setE_zero.2 hs), if_neg fun e => h0 (List.eq_nil_of_length_eq_zero e)]
theorem dfX_mem {n : Int} : n ∈ dfX h L ↔ n ∈ tops h L ∧ dnV h L n ≠ n := by unfold dfX; rw [List.mem_filter]; simp
/-- a top's difference is a subset, with a J -/
theorem dfX_sub (hs : setB h L = true) (h0 : L ≠ []) {n : Int} (hn : n ∈ dfX h L) : subB h n (dnV h L n) = true ∧ dnV h L n ≠ 0 ∧ okB h n = true ∧ okB h (dnV h L n) = true ∧ inT h L n = true := by
  obtain ⟨h1, h2⟩ := dfX_mem.1 hn
  have ht := tops_in hs h0 h1
  obtain ⟨B, b, c, D⟩ := dn_of hs ht
  have := (ok_of D.om).2.2.1
  exact ⟨sub_mk D.ok D.om D.anm fun e => h2 e.symm, by omega, D.ok, D.om, ht⟩
theorem dfL_sub (hs : setB h L = true) : ∀ s ∈ dfL h L, subB h s.1 s.2 = true := by
  intro s hm
  by_cases h0 : L = []
  · subst h0
    rw [dfL_nil hs] at hm
    simp at hm
    subst hm
    obtain ⟨s1, s2, -⟩ := set_of hs
    exact sub_mk0 (by rw [ok_one]; exact ht_mk s1 s2)
  · rw [dfL_yes hs h0] at hm
    obtain ⟨n, hn, rfl⟩ := List.mem_map.1 hm
    exact (dfX_sub hs h0 hn).1
theorem dfL_fit (hs : setB h L = true) : ∀ s ∈ dfL h L, 1 ≤ s.1 ∧ s.1 ≤ 18446744073709551615 ∧ 0 ≤ s.2 ∧ s.2 ≤ 18446744073709551615 ∧ okB h s.1 = true := by
  intro s hm
  have h1 := dfL_sub hs s hm
  have h2 := (sub_of h1).1
  have h3 := ok_of h2
  have h4 := ok_lt h2
  by_cases hJ : s.2 = 0
  · rw [hJ]; exact ⟨by omega, by omega, by omega, by omega, h2⟩
  · have h5 := (sub_in h1 hJ).1
    have h6 := ok_of h5
    have h7 := ok_lt h5
    exact ⟨by omega, by omega, by omega, by omega, h2⟩
theorem dfL_rise (hs : setB h L = true) : (dfL h L).Pairwise fun s t => s.1 < t.1 := by
  by_cases h0 : L = []
  · subst h0; rw [dfL_nil hs]; simp
  · rw [dfL_yes hs h0, List.pairwise_map]
    exact ((tops_rise hs).filter _)
/-- a leaf in a difference, in numbers -/
theorem inN_hit (hs : setB h L = true) (h0 : L ≠ []) (i : Int) {n : Int} (hn : n ∈ dfX h L) : inN h i (n, dnV h L n) = hit h i n - hit h i (dnV h L n) := by
  obtain ⟨h1, h2, -⟩ := dfX_sub hs h0 hn
  have g := sub_in h1 h2
  have hl := lvs_in h1 i
  unfold inN hit
  dsimp only
  by_cases hi : inS (lvs h n (dnV h L n)) i = true
  · rw [if_pos hi]
    have := hl.1 hi
    rw [if_pos this.1, if_neg (by omega)]; omega
  · rw [if_neg hi]
    have hx : ¬ ((low h n ≤ i ∧ i ≤ high h n) ∧ (dnV h L n = 0 ∨ i < low h (dnV h L n) ∨ high h (dnV h L n) < i)) := fun hc => hi (hl.2 hc)
    by_cases ha : low h n ≤ i ∧ i ≤ high h n
    · rw [if_pos ha, if_pos (by omega)]; omega
    · rw [if_neg ha, if_neg (by omega)]; omega
theorem hit_add (i : Int) : ∀ n, okB h n = true → n < p2 h → hit h i n = hit h i (2 * n) + hit h i (2 * n + 1) := by
  intro n hk hl
  obtain ⟨c1, c2, c3, c4, c5⟩ := child_span hk hl
  have b1 := low_bd c4
  have b2 := low_bd c5
  unfold hit
  by_cases h1 : low h n ≤ i ∧ i ≤ high h n
  · rw [if_pos h1]
    by_cases h2 : i ≤ high h (2 * n)
    · rw [if_pos (by omega), if_neg (by omega)]; omega
    · rw [if_neg (by omega), if_pos (by omega)]; omega
  · rw [if_neg h1, if_neg (by omega), if_neg (by omega)]; omega
theorem wid_add : ∀ n, okB h n = true → n < p2 h → wid h n = wid h (2 * n) + wid h (2 * n + 1) := by
  intro n hk hl
  obtain ⟨c1, c2, c3, c4, c5⟩ := child_span hk hl
  unfold wid; omega
theorem Sg_Sm (f : Int → Int) : ∀ X : List Int, Sg f X = Sm f X
  | [] => rfl
  | x :: t => by rw [Sg, Sm, Sg_Sm f t]
/-- each leaf that is not in the set is in just one; none of the set is in any -/
theorem dfL_in (hs : setB h L = true) {i : Int} (i0 : 0 ≤ i) (hi : i < p2 h) : Sg (inN h i) (dfL h L) = if i ∈ L then 0 else 1 := by
  obtain ⟨s1, s2, -⟩ := set_of hs
  have hp := p2_pos h
  have h1 : hit h i 1 = 1 := by unfold hit; rw [low_one, high_one, if_pos (by omega)]
  by_cases h0 : L = []
  · subst h0
    rw [dfL_nil hs, if_neg (by simp)]
    show inN h i (1, 0) + 0 = 1
    unfold inN
    dsimp only
    rw [inS_bare, low_one, high_one, decide_eq_true i0, decide_eq_true (show i ≤ p2 h - 1 by omega)]; rfl
  · rw [dfL_yes hs h0, Sg_map]
    have := tops_sum hs h0 (hit h i) (hit_add i)
    rw [Sg_Sm _ L, hit_leaf hs i, h1] at this
    rw [Sg_congr fun n hn => inN_hit hs h0 i hn]
    by_cases hm : i ∈ L
    · rw [if_pos hm] at this ⊢; omega
    · rw [if_neg hm] at this ⊢; omega
theorem dfL_out (hs : setB h L = true) {i : Int} (hi : p2 h ≤ i) : ∀ s ∈ dfL h L, inS (lvs h s.1 s.2) i = false := fun s hm => inS_out (dfL_sub hs s hm) hi
theorem inN_bd (h i : Int) (s : Int × Int) : 0 ≤ inN h i s ∧ inN h i s ≤ 1 := by unfold inN; split <;> omega
theorem inN_len (h i : Int) (X : List (Int × Int)) : 0 ≤ Sg (inN h i) X ∧ Sg (inN h i) X ≤ X.length := by
  induction X with
  | nil => simp [Sg]
  | cons x t ih => have := inN_bd h i x; rw [Sg, List.length_cons]; omega
/-- once at most, and if it is none, never -/
theorem dfL_told (hs : setB h L = true) {i : Int} (i0 : 0 ≤ i) : 0 ≤ Sg (inN h i) (dfL h L) ∧ Sg (inN h i) (dfL h L) ≤ 1 ∧ (fndE h L i = 0 → Sg (inN h i) (dfL h L) = if i ∈ L then 0 else 1) := by
  by_cases hi : i < p2 h
  · rw [dfL_in hs i0 hi]
    exact ⟨by split <;> omega, by split <;> omega, fun _ => rfl⟩
  · have hz : Sg (inN h i) (dfL h L) = 0 := by
      rw [Sg_congr (g := fun _ => 0) fun s hm => by unfold inN; rw [dfL_out hs (by omega) s hm]; rfl]
      induction dfL h L with
      | nil => rfl
      | cons x t ih => rw [Sg, ih]; rfl
    rw [hz]
    refine ⟨by decide, by decide, fun hf => ?_⟩
    exfalso
    unfold fndE at hf
    cases hx : isB h i with
    | false => rw [hx, Bool.and_false] at hf; exact absurd hf (by decide)
    | true => exact hi (isB_of hx).2.2
/-- as many leaves as are not in the set -/
theorem dfL_many (hs : setB h L = true) : Sg (mnN h) (dfL h L) + L.length = p2 h ∧ ∀ s ∈ dfL h L, manyE h (lvs h s.1 s.2) = 0 ∧ 1 ≤ mnN h s ∧ mnN h s ≤ p2 h := by
  refine ⟨?_, fun s hm => ?_⟩
  · have hw1 : wid h 1 = p2 h := by unfold wid; rw [low_one, high_one]; omega
    by_cases h0 : L = []
    · subst h0
      have hsub := dfL_sub hs (1, 0) (by rw [dfL_nil hs]; simp)
      rw [dfL_nil hs]
      show mnN h (1, 0) + 0 + _ = _
      unfold mnN
      rw [(lvs_facts hsub).2.2.2.2.1, if_pos rfl]
      unfold wid at hw1
      simp only [List.length_nil]; omega
    · rw [dfL_yes hs h0, Sg_map]
      have := tops_sum hs h0 (wid h) wid_add
      rw [hw1] at this
      have e1 : Sg (fun n => mnN h (n, dnV h L n)) (dfX h L) = Sg (fun n => wid h n - wid h (dnV h L n)) (dfX h L) := by
        refine Sg_congr fun n hn => ?_
        obtain ⟨k1, k2, -⟩ := dfX_sub hs h0 hn
        unfold mnN
        rw [(lvs_facts k1).2.2.2.2.1, if_neg k2]
        unfold wid; omega
      have e2 : Sg (fun i => wid h (p2 h + i)) L = L.length := by
        rw [← Sg_one]
        refine Sg_congr fun i hi => ?_
        obtain ⟨s1, s2, s3, s4, s5, s6⟩ := set_of hs
        have h6 := s6 i hi
        obtain ⟨_, _, _, l3, l4⟩ := leaf_facts h6.1 (leafE_yes s1 s2 h6.2)
        unfold wid; rw [l3, l4]; omega
      rw [e1]; omega
  · have := lvs_facts (dfL_sub hs s hm)
    exact ⟨this.2.2.2.1, this.2.2.2.2.2.1, this.2.2.2.2.2.2⟩
/-- no two touch -/
theorem Sg_two {α : Type} {f : α → Int} (h : ∀ x, 0 ≤ f x) : ∀ {X : List α} {q k : Nat} {x y : α}, q < k → X[q]? = some x → X[k]? = some y → f x + f y ≤ Sg f X
  | [], _, _, _, _, _, hx, _ => by simp at hx
  | a :: t, 0, k + 1, x, y, _, hx, hy => by
    simp at hx hy
    subst hx
    obtain ⟨hl, rfl⟩ := List.getElem?_eq_some_iff.1 hy
    have h1 := Sg_part (f := f) (X := t) (fun x _ => h x) k
    have h2 := Sg_take (f := f) hy
    have h3 := Sg_part (f := f) (X := t) (fun x _ => h x) (k + 1)
    rw [Sg]; omega
  | a :: t, q + 1, k + 1, x, y, hqk, hx, hy => by
    simp at hx hy
    have := Sg_two h (show q < k by omega) hx hy
    have := h a
    rw [Sg]; omega
theorem dfL_apart (hs : setB h L = true) {q k : Nat} {s t : Int × Int} (hqk : q < k) (hq : (dfL h L)[q]? = some s) (hk : (dfL h L)[k]? = some t) : toE h t.1 t.2 s.1 s.2 = 0 ∧ toV h t.1 t.2 s.1 s.2 = false := by
  have h1 := dfL_sub hs s (List.mem_of_getElem? hq)
  have h2 := dfL_sub hs t (List.mem_of_getElem? hk)
  obtain ⟨e1, e2⟩ := to_yes h2 h1
  refine ⟨e1, ?_⟩
  rw [e2, Bool.eq_false_iff]
  intro hm
  have f1 := lvs_facts h1
  have f2 := lvs_facts h2
  rw [metB_iff (fun s hs => (f2.1 s hs).2.1) (fun s hs => (f1.1 s hs).2.1)] at hm
  obtain ⟨i, hi, hj⟩ := hm
  have hr : 0 ≤ i ∧ i < p2 h := by
    obtain ⟨r, hr, hr1, hr2⟩ := inS_iff.1 hi
    have := f2.1 r hr
    omega
  have h3 := dfL_in hs hr.1 hr.2
  have h4 := Sg_two (f := inN h i) (fun x => (inN_bd h i x).1) hqk hq hk
  unfold inN at h4
  rw [if_pos hi, if_pos hj] at h4
  have : (Sg (inN h i) (dfL h L)) ≤ 1 := by rw [h3]; split <;> omega
  unfold inN at this
  omega
/-- the bound -/
theorem dfL_bound (hs : setB h L = true) : cntB h L.length = true ∧ ((dfL h L).length : Int) ≤ dbV h L.length := by
  have hc := (bound_facts hs).1
  refine ⟨hc, ?_⟩
  unfold dbV
  rw [hc, if_pos rfl]
  by_cases h0 : L = []
  · subst h0; rw [dfL_nil hs]; simp
  · have h1 : 0 < L.length := List.length_pos_iff.2 h0
    rw [if_neg (by omega), dfL_yes hs h0, List.length_map]
    have h2 := tops_len hs h0
    have h3 : (dfX h L).length ≤ (tops h L).length := List.length_filter_le _ _
    omega
end
end Go.Proofs.YtmicgojojkkkhaaGreat.M
namespace Go.Proofs.YtmicgojojkkkhaaGreat.M
section
variable {h : Int} {L : List Int}
/-- no leaf of the set is in any -/
theorem dfL_none (hs : setB h L = true) {i : Int} (hi : i ∈ L) : ∀ s ∈ dfL h L, inS (lvs h s.1 s.2) i = false := by
  obtain ⟨s1, s2, s3, s4, s5, s6⟩ := set_of hs
  have h6 := s6 i hi
  have h1 := dfL_in hs h6.1 h6.2
  rw [if_pos hi] at h1
  intro s hm
  rw [Bool.eq_false_iff]
  intro hx
  obtain ⟨k, hk, rfl⟩ := List.mem_iff_getElem.1 hm
  have h2 := Sg_take (f := inN h i) (List.getElem?_eq_getElem hk)
  have h3 := Sg_part (f := inN h i) (X := dfL h L) (fun x _ => (inN_bd h i x).1) k
  have h4 := Sg_part (f := inN h i) (X := dfL h L) (fun x _ => (inN_bd h i x).1) (k + 1)
  have h5 : inN h i (dfL h L)[k] = 1 := by unfold inN; rw [if_pos hx]
  omega
/-- the set's leaves below I are those below J -/
theorem dfL_below (hs : setB h L = true) (h0 : L ≠ []) : ∀ s ∈ dfL h L, s.2 ≠ 0 ∧ belE h L s.1 = 0 ∧ belE h L s.2 = 0 ∧ belV h L s.2 = belV h L s.1 ∧ ¬ (belV h L s.1).length = 0 := by
  intro s hm
  rw [dfL_yes hs h0] at hm
  obtain ⟨n, hn, rfl⟩ := List.mem_map.1 hm
  obtain ⟨h1, h2, h3, h4, h5⟩ := dfX_sub hs h0 hn
  obtain ⟨B, b, c, D⟩ := dn_of hs h5
  obtain ⟨g1, g2⟩ := D.bel_again
  have hp := D.pos
  refine ⟨h2, D.dn_zero.2.2.1, g1, by rw [g2, D.bel], ?_⟩
  rw [D.bel]; omega
/-- no more than the whole subtrees -/
theorem dv_oth (hs : setB h L = true) (h0 : L ≠ []) {n : Int} (hn : n ∈ dfX h L) : 2 ≤ dnV h L n ∧ oth (dnV h L n) ∈ thV h L := by
  obtain ⟨h1, h2, h3, h4, h5⟩ := dfX_sub hs h0 hn
  obtain ⟨B, b, c, D⟩ := dn_of hs h5
  have hne : dnV h L n ≠ n := (dfX_mem.1 hn).2
  have hdd := sub_dep D.anm fun e => hne e.symm
  have kd := ok_of h4
  have kn := ok_of h3
  have hd2 : 2 ≤ dnV h L n := by
    rcases Int.lt_or_le (dnV h L n) 2 with hx | hx
    · exfalso
      have e1 : dnV h L n = 1 := by omega
      have e2 : dep (1 : Int) = 0 := by decide +kernel
      have := dep_nonneg n
      rw [e1, e2] at hdd; omega
    · exact hx
  refine ⟨hd2, (hang_mem hs).2 ⟨ok_oth h4 (by omega), ?_, ?_⟩⟩
  · obtain ⟨o1, o2, o3, o4, o5, o6⟩ := oth_facts hd2
    rw [Bool.eq_false_iff]
    intro hi
    obtain ⟨ko, i, hi, i1, i2⟩ := inT_iff.1 hi
    have hap := apart_depth h4 ko o5.symm fun e => o2 e.symm
    have hw : abv n (oth (dnV h L n)) = true := by
      refine abv_iff.2 ⟨by rw [o5]; exact (abv_iff.1 D.anm).1, ?_⟩
      have e1 := (abv_iff.1 D.anm).2
      have k1 := up_up (n := dnV h L n) (d := dep (dnV h L n) - 1) (e := dep n) kd.2.2.1 (dep_nonneg n) (by omega) (by omega)
      have k2 := up_up (n := oth (dnV h L n)) (d := dep (oth (dnV h L n)) - 1) (e := dep n) (by omega) (dep_nonneg n) (by omega) (by omega)
      rw [up_one] at k1 k2
      rw [← k2, o4, k1, e1]
    have hs2 := (within_iff h3 ko).2 hw
    have hB := D.all i (D.from' i hi (by omega) (by omega))
    have hsp := D.span
    have hb := D.all b D.mb
    omega
  · rw [if_neg fun e => h0 (List.eq_nil_of_length_eq_zero e)]
    obtain ⟨o1, o2, o3, o4, o5, o6⟩ := oth_facts hd2
    refine ⟨o1, ?_⟩
    rw [o4]
    have ht : inT h L (dnV h L n) = true := by
      have hb := D.all b D.mb
      have hsp := D.span
      exact inT_iff.2 ⟨h4, b, hb.1, by omega, by omega⟩
    exact (inT_up ht hd2).1
theorem oth_inj {a b : Int} (ha : 2 ≤ a) (hb : 2 ≤ b) (he : oth a = oth b) : a = b := by
  rw [← (oth_facts ha).2.2.1, he, (oth_facts hb).2.2.1]
theorem nodup_len {α : Type} [DecidableEq α] : ∀ {A K : List α}, A.Nodup → (∀ x ∈ A, x ∈ K) → A.length ≤ K.length
  | [], _, _, _ => by simp
  | a :: t, K, hn, hm => by
    obtain ⟨s, u, rfl⟩ := List.append_of_mem (hm a (by simp))
    obtain ⟨n1, n2⟩ := List.nodup_cons.1 hn
    have := nodup_len (A := t) (K := s ++ u) n2 fun x hx => by
      have h1 := hm x (List.mem_cons_of_mem _ hx)
      rw [List.mem_append, List.mem_cons] at h1
      rw [List.mem_append]
      rcases h1 with h1 | h1 | h1
      · exact .inl h1
      · exact absurd (h1 ▸ hx) n1
      · exact .inr h1
    simp only [List.length_append, List.length_cons] at this ⊢; omega
theorem dfL_fewer (hs : setB h L = true) : (dfL h L).length ≤ (thV h L).length ∧ (L.length = 1 → (dfL h L).length = 1) := by
  by_cases h0 : L = []
  · subst h0
    rw [dfL_nil hs]
    refine ⟨?_, fun e => by cases e⟩
    unfold thV; rw [if_pos (setE_zero.2 hs)]; simp
  · rw [dfL_yes hs h0, List.length_map]
    refine ⟨?_, fun h1 => ?_⟩
    · have := nodup_len (A := (dfX h L).map fun n => oth (dnV h L n)) (K := thV h L) (by
        refine List.pairwise_map.2 (List.Pairwise.imp_of_mem ?_ ((tops_rise hs).filter _))
        intro a b ha hb hab he
        have := dv_inj hs h0 (dfX_mem.1 ha).1 (dfX_mem.1 hb).1 (oth_inj (dv_oth hs h0 ha).1 (dv_oth hs h0 hb).1 he)
        omega) (fun x hx => by obtain ⟨n, hn, rfl⟩ := List.mem_map.1 hx; exact (dv_oth hs h0 hn).2)
      rwa [List.length_map] at this
    · have hf := forks_len hs h0
      have hz : forks h L = [] := List.eq_nil_of_length_eq_zero (by omega)
      have ht : tops h L = [1] := by unfold tops; rw [hz]; rfl
      have hd : dnV h L 1 ≠ 1 := by
        intro he
        have h1t : (1 : Int) ∈ tops h L := by rw [ht]; simp
        have hin := dv_in hs h0 h1t
        rw [hz, List.nil_append, he] at hin
        obtain ⟨i, hi, hi2⟩ := List.mem_map.1 hin
        obtain ⟨s1, s2, s3, s4, s5, s6⟩ := set_of hs
        have h6 := s6 i hi
        have h2 := p2_mono s1
        have h3 : p2 1 = 2 := by decide +kernel
        omega
      unfold dfX
      rw [ht]
      simp [hd]
/-- a whole subtree lies in just one: its first and its last leaf are in the same -/
theorem dfL_whole (hs : setB h L = true) {t : Int} (ht : t ∈ thV h L) : 0 ≤ low h t ∧ low h t < p2 h ∧ 0 ≤ high h t ∧ high h t < p2 h ∧ okB h t = true ∧ (∀ s ∈ dfL h L, inS (lvs h s.1 s.2) (high h t) = inS (lvs h s.1 s.2) (low h t)) ∧ Sg (inN h (low h t)) (dfL h L) = 1 := by
  obtain ⟨kt, ti, -⟩ := (hang_mem hs).1 ht
  have hb := low_bd kt
  refine ⟨by omega, by omega, by omega, by omega, kt, fun s hm => ?_, ?_⟩
  · by_cases h0 : L = []
    · subst h0
      rw [dfL_nil hs] at hm
      simp at hm
      subst hm
      dsimp only
      rw [inS_bare, inS_bare, low_one, high_one]
      rw [decide_eq_true (show 0 ≤ high h t by omega), decide_eq_true (show high h t ≤ p2 h - 1 by omega), decide_eq_true hb.1, decide_eq_true (show low h t ≤ p2 h - 1 by omega)]
    · rw [dfL_yes hs h0] at hm
      obtain ⟨n, hn, rfl⟩ := List.mem_map.1 hm
      obtain ⟨h1, h2, h3, h4, h5⟩ := dfX_sub hs h0 hn
      obtain ⟨B, b, c, D⟩ := dn_of hs h5
      have hdt : inT h L (dnV h L n) = true := by
        have hb := D.all b D.mb
        have hsp := D.span
        exact inT_iff.2 ⟨h4, b, hb.1, by omega, by omega⟩
      -- a node of the tree is apart from t, or above it
      have key : ∀ x, okB h x = true → inT h L x = true → (high h x < low h t ∨ high h t < low h x) ∨ (low h x ≤ low h t ∧ high h t ≤ high h x) := by
        intro x kx xi
        by_cases hx : high h x < low h t ∨ high h t < low h x
        · exact .inl hx
        · refine .inr ((within_iff kx kt).2 ?_)
          rw [apart_iff kx kt] at hx
          by_cases g1 : abv x t = true
          · exact g1
          · by_cases g2 : abv t x = true
            · rw [inT_above kt g2 xi] at ti; cases ti
            · exact absurd ⟨g1, g2⟩ hx
      have k1 := key n h3 h5
      have k2 := key _ h4 hdt
      have l1 := lvs_in h1 (high h t)
      have l2 := lvs_in h1 (low h t)
      have g := sub_in h1 h2
      dsimp only
      rw [Bool.eq_iff_iff, l1, l2]
      constructor
      · intro hx; omega
      · intro hx; omega
  · rw [dfL_in hs hb.1 (by omega), if_neg ?_]
    intro hi
    rw [inT_iff.2 ⟨kt, _, hi, by omega, by omega⟩] at ti; cases ti
/-- each subset's I is Root, or below a fork; no J is another one's I -/
theorem dfL_tops (hs : setB h L = true) : (∀ s ∈ dfL h L, s.1 = 1 ∨ s.1 / 2 ∈ forks h L) ∧ ∀ s ∈ dfL h L, ∀ t ∈ dfL h L, t.2 ≠ s.1 := by
  by_cases h0 : L = []
  · subst h0
    rw [dfL_nil hs]
    simp
  · rw [dfL_yes hs h0]
    constructor
    · intro s hm
      obtain ⟨n, hn, rfl⟩ := List.mem_map.1 hm
      exact tops_mem.1 (dfX_mem.1 hn).1
    · intro s hm t hm2 he
      obtain ⟨n, hn, rfl⟩ := List.mem_map.1 hm
      obtain ⟨m, hm, rfl⟩ := List.mem_map.1 hm2
      dsimp only at he
      obtain ⟨h1, h2, h3, h4, h5⟩ := dfX_sub hs h0 hm
      obtain ⟨B, b, c, D⟩ := dn_of hs h5
      have := D.again.2
      rw [he] at this
      exact (dfX_mem.1 hn).2 this
end
end Go.Proofs.YtmicgojojkkkhaaGreat.M
