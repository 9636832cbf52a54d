/-
  Plain mathematics for layer 11: the tops of a set's tree, the deepest node below each, their differences; sums over them. No condition.
-/
import Derived.Test.YthmiekinjfaflaaZLM
import Derived.Test.YthmiekinjfaflaaZON
namespace Go.Proofs.Ythmiekinjfaflaa.M
/-! ### sums over lists of whatever -/
def Sg {α : Type} (f : α → Int) : List α → Int
  | [] => 0
  | x :: t => f x + Sg f t
theorem Sg_append {α : Type} (f : α → Int) : ∀ A B : List α, Sg f (A ++ B) = Sg f A + Sg f B
  | [], B => by simp [Sg]
  | a :: t, B => by rw [List.cons_append, Sg, Sg, Sg_append f t B]; omega
theorem Sg_map {α β : Type} (f : β → Int) (g : α → β) : ∀ X : List α, Sg f (X.map g) = Sg (fun n => f (g n)) X
  | [] => rfl
  | x :: t => by rw [List.map_cons, Sg, Sg, Sg_map f g t]
theorem Sg_congr {α : Type} {f g : α → Int} : ∀ {X : List α}, (∀ x ∈ X, f x = g x) → Sg f X = Sg g X
  | [], _ => rfl
  | x :: t, h => by rw [Sg, Sg, h x (by simp), Sg_congr fun y hy => h y (List.mem_cons_of_mem _ hy)]
theorem Sg_sub {α : Type} (f g : α → Int) : ∀ X : List α, Sg (fun n => f n - g n) X = Sg f X - Sg g X
  | [] => rfl
  | x :: t => by rw [Sg, Sg, Sg, Sg_sub f g t]; omega
theorem Sg_filter {α : Type} (f : α → Int) (p : α → Bool) (h0 : ∀ x, p x = false → f x = 0) : ∀ X : List α, Sg f (X.filter p) = Sg f X
  | [] => rfl
  | x :: t => by
    rw [List.filter_cons, Sg]
    cases hp : p x with
    | true => rw [if_pos rfl, Sg, Sg_filter f p h0 t]
    | false => rw [if_neg (by simp), Sg_filter f p h0 t, h0 x hp]; omega
theorem Sg_nonneg {α : Type} {f : α → Int} : ∀ {X : List α}, (∀ x ∈ X, 0 ≤ f x) → 0 ≤ Sg f X
  | [], _ => Int.le_refl _
  | x :: t, h => by
    have h1 := h x (by simp)
    have h2 := Sg_nonneg fun y hy => h y (List.mem_cons_of_mem x hy)
    rw [Sg]; omega
theorem Sg_len {α : Type} {f : α → Int} : ∀ {X : List α}, (∀ x ∈ X, 1 ≤ f x) → (X.length : Int) ≤ Sg f X
  | [], _ => Int.le_refl _
  | x :: t, h => by
    have h1 := h x (by simp)
    have h2 := Sg_len fun y hy => h y (List.mem_cons_of_mem x hy)
    rw [Sg, List.length_cons]; omega
theorem Sg_one {α : Type} (X : List α) : Sg (fun _ => 1) X = X.length := by
  induction X with
  | nil => rfl
  | cons x t ih => rw [Sg, ih, List.length_cons]; omega
theorem Sg_take {α : Type} {f : α → Int} {X : List α} {k : Nat} {x : α} (hk : X[k]? = some x) : Sg f (X.take (k + 1)) = Sg f (X.take k) + f x := by
  rw [List.take_add_one, hk, Sg_append]; simp [Sg]
theorem Sg_part {α : Type} {f : α → Int} {X : List α} (h : ∀ x ∈ X, 0 ≤ f x) (k : Nat) : 0 ≤ Sg f (X.take k) ∧ Sg f (X.take k) ≤ Sg f X := by
  have h1 := Sg_nonneg fun y hy => h y (List.mem_of_mem_take (i := k) hy)
  have h2 := Sg_nonneg fun y hy => h y (List.mem_of_mem_drop (i := k) hy)
  have h3 := Sg_append f (X.take k) (X.drop k)
  rw [List.take_append_drop] at h3
  omega
theorem Sg_swap {α β : Type} (f : α → β → Int) (X : List α) (Y : List β) : Sg (fun x => Sg (f x) Y) X = Sg (fun y => Sg (fun x => f x y) X) Y := by
  induction X with
  | nil =>
    have : ∀ Y : List β, Sg (fun y => Sg (fun x => f x y) ([] : List α)) Y = 0 := by
      intro Y; induction Y with
      | nil => rfl
      | cons y t ih => rw [Sg, ih]; rfl
    rw [this]; rfl
  | cons x t ih =>
    rw [Sg, ih]
    clear ih
    induction Y with
    | nil => rfl
    | cons y u ih2 => rw [Sg, Sg, Sg, Sg, ← ih2]; omega
/-- a list of different ones, all in another one that is as long: the same sum -/
theorem Sg_inj {α : Type} [DecidableEq α] (g : α → Int) : ∀ A K : List α, A.Nodup → (∀ x ∈ A, x ∈ K) → A.length = K.length → Sg g A = Sg g K
  | [], K, _, _, hl => by rw [List.eq_nil_of_length_eq_zero (l := K) (by simpa using hl.symm)]
  | a :: t, K, hn, hm, hl => by
    obtain ⟨s, u, rfl⟩ := List.append_of_mem (hm a (by simp))
    obtain ⟨n1, n2⟩ := List.nodup_cons.1 hn
    have := Sg_inj g t (s ++ u) n2 (fun x hx => by
      have h1 := hm x (List.mem_cons_of_mem _ hx)
      rw [List.mem_append, List.mem_cons] at h1
      rw [List.mem_append]
      rcases h1 with h1 | h1 | h1
      · exact .inl h1
      · exact absurd (h1 ▸ hx) n1
      · exact .inr h1) (by simp only [List.length_append, List.length_cons] at hl ⊢; omega)
    rw [Sg, this, Sg_append, Sg_append, Sg]; omega
/-! ### tops -/
def kids2 (f : Int) : List Int := [2 * f, 2 * f + 1]
def forks (h : Int) (L : List Int) : List Int := (tree h L).filter (frk h L)
def tops (h : Int) (L : List Int) : List Int := 1 :: (forks h L).flatMap kids2
def dfX (h : Int) (L : List Int) : List Int := (tops h L).filter fun n => decide (dnV h L n ≠ n)
def dfL (h : Int) (L : List Int) : List (Int × Int) := if setE h L = 0 then (if L.length = 0 then [(1, 0)] else (dfX h L).map fun n => (n, dnV h L n)) else []
section
variable {h : Int} {L : List Int}
theorem forks_mem (hs : setB h L = true) {f : Int} : f ∈ forks h L ↔ inT h L (2 * f) = true ∧ inT h L (2 * f + 1) = true := by
  unfold forks
  rw [List.mem_filter, (tree_facts hs).2.1, frk_eq, Bool.and_eq_true]
  constructor
  · exact fun h => h.2
  · intro ⟨h1, h2⟩
    refine ⟨?_, h1, h2⟩
    have k := ok_of (inT_iff.1 h1).1
    have := (inT_up h1 (by omega)).1
    rw [show 2 * f / 2 = f by omega] at this
    exact this
theorem forks_ok (hs : setB h L = true) {f : Int} (hf : f ∈ forks h L) : okB h f = true ∧ f < p2 h ∧ inT h L f = true ∧ 1 ≤ f := by
  obtain ⟨h1, h2⟩ := (forks_mem hs).1 hf
  have k := ok_of (inT_iff.1 h1).1
  have := (inT_up h1 (by omega)).1
  rw [show 2 * f / 2 = f by omega] at this
  exact ⟨(inT_iff.1 this).1, by omega, this, by omega⟩
theorem forks_rise (hs : setB h L = true) : (forks h L).Pairwise (· < ·) := (tree_facts hs).1.filter _
theorem forks_len (hs : setB h L = true) (h0 : L ≠ []) : (forks h L).length + 1 = L.length := by
  have := (counts hs h0).1
  unfold forks; omega
theorem kids2_flat (X : List Int) : (X.flatMap kids2).length = 2 * X.length := by
  induction X with
  | nil => rfl
  | cons x t ih => rw [List.flatMap_cons, List.length_append, ih, List.length_cons]; unfold kids2; simp; omega
theorem tops_len (hs : setB h L = true) (h0 : L ≠ []) : (tops h L).length + 1 = 2 * L.length := by
  have := forks_len hs h0
  unfold tops
  rw [List.length_cons, kids2_flat]; omega
theorem tops_mem {n : Int} : n ∈ tops h L ↔ n = 1 ∨ n / 2 ∈ forks h L := by
  unfold tops
  rw [List.mem_cons, List.mem_flatMap]
  constructor
  · rintro (h1 | ⟨f, hf, hn⟩)
    · exact .inl h1
    · refine .inr ?_
      unfold kids2 at hn
      simp at hn
      rw [show n / 2 = f by omega]; exact hf
  · rintro (h1 | hf)
    · exact .inl h1
    · exact .inr ⟨n / 2, hf, by unfold kids2; simp; omega⟩
theorem tops_rise (hs : setB h L = true) : (tops h L).Pairwise (· < ·) := by
  unfold tops
  rw [List.pairwise_cons]
  refine ⟨fun x hx => ?_, flat_rise (fun n => by unfold kids2; simp; omega) (fun n c hc => by unfold kids2 at hc; simp at hc; omega) (forks_rise hs)⟩
  obtain ⟨f, hf, hn⟩ := List.mem_flatMap.1 hx
  have := (forks_ok hs hf).2.2.2
  unfold kids2 at hn
  simp at hn; omega
theorem tops_in (hs : setB h L = true) (h0 : L ≠ []) {n : Int} (hn : n ∈ tops h L) : inT h L n = true := by
  rcases tops_mem.1 hn with rfl | hf
  · exact inT_root hs h0
  · obtain ⟨h1, h2⟩ := (forks_mem hs).1 hf
    by_cases hp : n % 2 = 0
    · rw [show n = 2 * (n / 2) by omega]; exact h1
    · rw [show n = 2 * (n / 2) + 1 by omega]; exact h2
/-- a node of the tree, and the deepest one above all leaves of the set below it -/
theorem dn_of (hs : setB h L = true) {n : Int} (hn : inT h L n = true) : ∃ B b c, Dn h L n B b c (dnV h L n) := by
  have hk := (inT_iff.1 hn).1
  obtain ⟨e, v⟩ := isV_yes hs hk
  rw [hn] at v
  unfold isV at v
  have hp := of_decide_eq_true v
  have D := dn_mk e (by omega)
  have hv := D.dn_zero.2.1
  rw [← hv] at D
  exact ⟨_, _, _, D⟩
/-- a fork below a node: the deepest one is no deeper -/
theorem fork_deep (hs : setB h L = true) {n f m : Int} {B : List Int} {b c : Int} (D : Dn h L n B b c m) (hf : f ∈ forks h L) (hnf : abv n f = true) : dep m ≤ dep f := by
  obtain ⟨i1, i2⟩ := (forks_mem hs).1 hf
  obtain ⟨kf, fl, -, f1⟩ := forks_ok hs hf
  obtain ⟨c1, c2, c3, c4, c5⟩ := child_span kf fl
  obtain ⟨k1, i, hi, hi1, hi2⟩ := inT_iff.1 i1
  obtain ⟨k2, j, hj, hj1, hj2⟩ := inT_iff.1 i2
  have hw := (within_iff D.ok kf).2 hnf
  have bi := D.all i (D.from' i hi (by omega) (by omega))
  have bj := D.all j (D.from' j hj (by omega) (by omega))
  have hsp := D.span
  have hx : ¬ (high h m < low h (2 * f) ∨ high h (2 * f) < low h m) := by omega
  rw [apart_iff D.om k1] at hx
  by_cases h1 : abv m (2 * f) = true
  · have h3 := abv_iff.1 h1
    have hd : dep (2 * f) = dep f + 1 := by have := child_dep (s := 0) f1 (.inl rfl); rwa [Int.add_zero] at this
    by_cases he : dep m = dep (2 * f)
    · exfalso
      have h4 := h3.2
      rw [he, up_self] at h4
      have h5 : high h m = high h (2 * f) := by rw [h4]
      omega
    · omega
  · by_cases h2 : abv (2 * f) m = true
    · exfalso
      have := (within_iff k1 D.om).2 h2
      omega
    · exact absurd ⟨h1, h2⟩ hx
theorem dv_apart (hs : setB h L = true) (h0 : L ≠ []) {n m : Int} (hn : n ∈ tops h L) (hm : m ∈ tops h L) (hd : dep n < dep m) : dnV h L n ≠ dnV h L m := by
  intro he
  obtain ⟨B, b, c, D⟩ := dn_of hs (tops_in hs h0 hn)
  obtain ⟨B', b', c', D'⟩ := dn_of hs (tops_in hs h0 hm)
  rw [← he] at D'
  have hdn := dep_nonneg n
  have km := ok_of D'.ok
  have k1 := (ok_of D.om).2.2.1
  -- n is above m
  have g1 := abv_iff.1 D.anm
  have g2 := abv_iff.1 D'.anm
  have hnm : abv n m = true := by
    refine abv_iff.2 ⟨by omega, ?_⟩
    rw [← g2.2, up_up k1 hdn (by omega) g2.1, g1.2]
  rcases tops_mem.1 hm with rfl | hf
  · have : dep 1 = 0 := by decide +kernel
    omega
  · have hm2 : 2 ≤ m := by have := (forks_ok hs hf).2.2.2; omega
    have hdm : dep (m / 2) = dep m - 1 := by
      rw [← up_one, up_dep km.2.2.1 (by omega) (by omega)]
    have hnf : abv n (m / 2) = true := by
      refine abv_iff.2 ⟨by omega, ?_⟩
      rw [← up_one, up_up km.2.2.1 hdn (by omega) (by omega)]
      exact (abv_iff.1 hnm).2
    have := fork_deep hs D hf hnf
    omega
theorem dv_inj (hs : setB h L = true) (h0 : L ≠ []) {n m : Int} (hn : n ∈ tops h L) (hm : m ∈ tops h L) (he : dnV h L n = dnV h L m) : n = m := by
  rcases Int.lt_trichotomy (dep n) (dep m) with hd | hd | hd
  · exact absurd he (dv_apart hs h0 hn hm hd)
  · obtain ⟨B, b, c, D⟩ := dn_of hs (tops_in hs h0 hn)
    obtain ⟨B', b', c', D'⟩ := dn_of hs (tops_in hs h0 hm)
    rw [← he] at D'
    rw [← (abv_iff.1 D.anm).2, ← (abv_iff.1 D'.anm).2, hd]
  · exact absurd he.symm (dv_apart hs h0 hm hn hd)
theorem dv_in (hs : setB h L = true) (h0 : L ≠ []) {n : Int} (hn : n ∈ tops h L) : dnV h L n ∈ forks h L ++ L.map (fun i => p2 h + i) := by
  obtain ⟨B, b, c, D⟩ := dn_of hs (tops_in hs h0 hn)
  rw [List.mem_append]
  by_cases hd : dep (dnV h L n) = h
  · refine .inr (List.mem_map.2 ⟨b, (D.all b D.mb).1, ?_⟩)
    have := (abv_iff.1 D.mab).2
    have h5 := up_self (p2 h + b)
    rw [D.db] at h5
    rw [hd, h5] at this
    exact this
  · exact .inl (D.fork hd)
/-- an additive function: what the tops have less what the deepest ones below them have -/
theorem tops_sum (hs : setB h L = true) (h0 : L ≠ []) (f : Int → Int) (hf : ∀ n, okB h n = true → n < p2 h → f n = f (2 * n) + f (2 * n + 1)) :
    Sg (fun n => f n - f (dnV h L n)) (dfX h L) + Sg (fun i => f (p2 h + i)) L = f 1 := by
  have e1 : Sg (fun n => f n - f (dnV h L n)) (dfX h L) = Sg (fun n => f n - f (dnV h L n)) (tops h L) := by
    unfold dfX
    refine Sg_filter _ _ (fun x hx => ?_) _
    have : dnV h L x = x := by simpa using hx
    rw [this]; omega
  have e2 : Sg f (tops h L) = f 1 + Sg f (forks h L) := by
    unfold tops
    rw [Sg]
    congr 1
    have hok := fun n (hn : n ∈ forks h L) => forks_ok hs hn
    revert hok
    induction forks h L with
    | nil => intro _; rfl
    | cons x t ih =>
      intro hok
      rw [List.flatMap_cons, Sg_append, Sg, ih fun n hn => hok n (List.mem_cons_of_mem _ hn)]
      have hx := hok x (by simp)
      rw [hf x hx.1 hx.2.1]
      unfold kids2
      simp [Sg]
  have e3 : Sg (fun n => f (dnV h L n)) (tops h L) = Sg f (forks h L) + Sg (fun i => f (p2 h + i)) L := by
    rw [← Sg_map f (dnV h L), ← Sg_map f (fun i => p2 h + i) L, ← Sg_append]
    refine Sg_inj f _ _ ?_ (fun x hx => ?_) ?_
    · have hr := tops_rise hs
      refine List.pairwise_map.2 (List.Pairwise.imp_of_mem ?_ hr)
      intro a b ha hb hab he
      have := dv_inj hs h0 ha hb he
      omega
    · obtain ⟨n, hn, rfl⟩ := List.mem_map.1 hx
      exact dv_in hs h0 hn
    · have := tops_len hs h0
      have := forks_len hs h0
      simp only [List.length_map, List.length_append]; omega
  rw [e1, Sg_sub, e2, e3]; omega
end
end Go.Proofs.Ythmiekinjfaflaa.M
