/-
  What whole.Cover answers at every input: each subset of what hangs, without a J. Conditions: the slice holds numbers, they fit their kind.
-/
import Derived.Test.YthmiekinjfaflaaGreatZLM
import Derived.Test.YthmiekinjfaflaaGreatZM3
import Derived.Test.YthmiekinjfaflaaGreatZNZ
import Derived.Test.YthmiekinjfaflaaGreatZO2
import Derived.Test.YthmiekinjfaflaaGreatZON
import Derived.Test.YthmiekinjfaflaaGreatZTR
namespace Go.Proofs.YthmiekinjfaflaaGreat
open Go.RowKit
namespace M
/-- each node as a subset without a J -/
def bareL (X : List Int) : List (Int × Int) := X.map fun n => (n, 0)
def cvL (h : Int) (L : List Int) : List (Int × Int) := bareL (thV h L)
theorem bare_length (X : List Int) : (bareL X).length = X.length := by unfold bareL; simp
theorem bare_at (X : List Int) (k : Nat) (hk : k < X.length) : (bareL X)[k]? = some (X[k]?.getD 0, 0) := by
  unfold bareL; rw [List.getElem?_map, List.getElem?_eq_getElem hk]; rfl
theorem bare_take (X : List Int) (k : Nat) (hk : k < X.length) : (bareL X).take (k + 1) = (bareL X).take k ++ [(X[k]?.getD 0, 0)] := by
  rw [List.take_add_one, bare_at X k hk]; rfl
theorem cvL_no {h : Int} {L : List Int} (hs : ¬ setE h L = 0) : cvL h L = [] := by unfold cvL thV; rw [if_neg hs]; rfl
theorem thV_len {h : Int} {L : List Int} : (thV h L).length ≤ 80000 := by
  unfold thV
  by_cases e : setE h L = 0
  · rw [if_pos e]
    by_cases h0 : L.length = 0
    · rw [if_pos h0]; simp
    · rw [if_neg h0]
      have := flat_len (outk_len h L) (tree h L)
      have := (tree_facts (setE_zero.1 e)).2.2
      have := (set_of (setE_zero.1 e)).2.2.1
      omega
  · rw [if_neg e]; simp
end M
theorem elSub_set (A R : List (Int × Int)) (y x : Int × Int) (n : Nat) (hn : A.length = n) : ((elSub.cells (A ++ y :: R)).set (n * 2) (.int .u64 x.1)).set (n * 2 + 1) (.int .u64 x.2) = elSub.cells (A ++ x :: R) := by
  have hl : (elSub.cells A).length = n * 2 := by rw [elSub.cells_length A, hn]; rfl
  rw [elSub.cells_append, elSub.cells_append]
  show ((elSub.cells A ++ (.int .u64 y.1 :: .int .u64 y.2 :: elSub.cells R)).set _ _).set _ _ = elSub.cells A ++ (.int .u64 x.1 :: .int .u64 x.2 :: elSub.cells R)
  rw [← hl, List.set_append_right _ _ (by omega), List.set_append_right _ _ (by omega)]
  simp
theorem elSub_zeros (n : Nat) : (madeCells #[Value.int .u64 0, .int .u64 0] (n * 2)).toList = elSub.cells (List.replicate n (0, 0)) := by
  have hl : (elSub.cells (List.replicate n (0, 0))).length = n * 2 := by rw [elSub.cells_length]; simp; rfl
  refine List.ext_getElem? fun j => ?_
  by_cases h : j < n * 2
  · have h1 := elSub.cells_get (List.replicate n (0, 0)) (j / 2) (j % 2) (0, 0) (by rw [List.getElem?_replicate, if_pos (by omega)]) (by show j % 2 < 2; omega)
    rw [show j / 2 * elSub.size + j % 2 = j by show j / 2 * 2 + j % 2 = j; omega] at h1
    rw [h1]
    have h2 : j % 2 = 0 ∨ j % 2 = 1 := by omega
    rcases h2 with h2 | h2 <;> simp [madeCells, h, h2, elSub]
  · rw [List.getElem?_eq_none (l := elSub.cells _) (by rw [hl]; omega), List.getElem?_eq_none (by simp [madeCells]; omega)]
/-- the row behind k rounds -/
abbrev halfS (X : List Int) (k : Nat) : List (Int × Int) := (M.bareL X).take k ++ List.replicate (X.length - k) (0, 0)
theorem halfS_set (X : List Int) (k : Nat) (hk : k < X.length) : ((elSub.cells (halfS X k)).set (k * 2) (.int .u64 (X[k]?.getD 0))).set (k * 2 + 1) (.int .u64 0) = elSub.cells (halfS X (k + 1)) := by
  have hr : List.replicate (X.length - k) ((0 : Int), (0 : Int)) = (0, 0) :: List.replicate (X.length - (k + 1)) (0, 0) := by
    rw [show X.length - k = (X.length - (k + 1)) + 1 by omega, List.replicate_succ]
  unfold halfS
  rw [hr, M.bare_take X k hk, List.append_assoc]
  exact elSub_set _ _ _ (X[k]?.getD 0, 0) k (by rw [List.length_take, M.bare_length]; omega)
set_option maxRecDepth 100000 in
theorem Tryz.infoSub : (Tryz.prog.info? 46).map (fun i => (i.zero, i.size, i.bytes)) = some (some (.agg #[.int .u64 0, .int .u64 0]), 2, 16) := by kernel_rfl
end Go.Proofs.YthmiekinjfaflaaGreat
namespace Go.Proofs.YthmiekinjfaflaaGreat
open Go.RowKit
end Go.Proofs.YthmiekinjfaflaaGreat
namespace Go.Proofs.YthmiekinjfaflaaGreat
open Go.RowKit
namespace M
/-- there may be a set of so many leaves -/
def cntB (h many : Int) : Bool := htB h && decide (0 ≤ many) && decide (many ≤ 1024) && decide (many ≤ p2 h)
def bdE (h many : Int) : Int := if cntB h many then 0 else 1
def bdV (h many : Int) : Int := if cntB h many then (if many = 0 then 1 else many * (h - dep many)) else 0
theorem cnt_of {h many : Int} (hc : cntB h many = true) : 1 ≤ h ∧ h ≤ 32 ∧ 0 ≤ many ∧ many ≤ 1024 ∧ many ≤ p2 h := by
  unfold cntB at hc
  simp only [Bool.and_eq_true, decide_eq_true_eq] at hc
  obtain ⟨⟨⟨h1, h2⟩, h3⟩, h4⟩ := hc
  exact ⟨(ht_of h1).1, (ht_of h1).2, h2, h3, h4⟩
theorem cnt_mk {h many : Int} (h1 : 1 ≤ h) (h2 : h ≤ 32) (h3 : 0 ≤ many) (h4 : many ≤ 1024) (h5 : many ≤ p2 h) : cntB h many = true := by
  unfold cntB
  rw [ht_mk h1 h2, decide_eq_true h3, decide_eq_true h4, decide_eq_true h5]; rfl
theorem dep_many {h many : Int} (h1 : 1 ≤ h) (h2 : h ≤ 32) (h3 : 1 ≤ many) (h5 : many ≤ p2 h) : 0 ≤ dep many ∧ dep many ≤ h := by
  have hp := p2_pos h
  exact ⟨dep_nonneg _, dep_le_of h3 (by omega) (by omega)⟩
theorem mul_bd {a b : Int} (ha : 0 ≤ a) (ha2 : a ≤ 1024) (hb : 0 ≤ b) (hb2 : b ≤ 32) : 0 ≤ a * b ∧ a * b ≤ 32768 := by
  have h1 := Int.mul_nonneg ha hb
  have h2 := Int.mul_le_mul ha2 hb2 hb (by decide)
  omega
end M
end Go.Proofs.YthmiekinjfaflaaGreat
namespace Go.Proofs.YthmiekinjfaflaaGreat
open Go.RowKit
theorem M.live10a : M.cvL 2 [1] = [(3, 0), (4, 0)] := by decide +kernel
end Go.Proofs.YthmiekinjfaflaaGreat
namespace Go.Proofs.YthmiekinjfaflaaGreat
open Go.RowKit
theorem sl_zero {P : Program} {α : Type} {E : Elt P α} {W : World} {ao : Option Addr} {c : Nat} (hc : c ≤ maxLen) (h : 0 < c → ∃ b off, ao = some ⟨b, off, none⟩ ∧ b < W.heap.size) : Sl E W (.slice ao 0 c) [] :=
  ⟨ao, c, rfl, by simp, hc, by simp, fun h0 => by obtain ⟨b, off, e, hb⟩ := h h0; exact ⟨b, off, e, hb, fun j hj => by simp at hj⟩⟩
theorem lss_no {I J K L : Int} (h : K < I) : M.lssB I J K L = false := by
  unfold M.lssB
  rw [decide_eq_false (by omega), decide_eq_false (by omega)]; rfl
set_option maxRecDepth 100000 in
theorem own_form2 {W : World} {base : Nat} {v : Value} {n : Nat} {L : List (Int × Int)} (h : W.ownsRow base 46 2 v n (elSub.cells L)) (hb : ∀ x ∈ L, 0 ≤ x.1 ∧ x.1 ≤ 18446744073709551615 ∧ 0 ≤ x.2 ∧ x.2 ≤ 18446744073709551615) : Ss W v L := Sl.of_own (E := elSub) h hb
set_option maxRecDepth 100000 in
theorem row_more {W : World} {base k : Nat} {v : Value} {X : List (Int × Int)} {s : Int × Int} (h : W.ownsRow base 46 2 v (0 + (X.take k).length + [s].length + ([] : List (Int × Int)).length) (elSub.cells (([] ++ X.take k ++ [s]) ++ []))) (hT : X.take (k + 1) = X.take k ++ [s]) (hk : (X.take k).length = k) :
    W.ownsRow base 46 2 v (k + 1) (elSub.cells (X.take (k + 1))) := by
  rw [List.nil_append, List.append_nil, ← hT, hk, show 0 + k + [s].length + ([] : List (Int × Int)).length = k + 1 by simp] at h
  exact h
end Go.Proofs.YthmiekinjfaflaaGreat
namespace Go.Proofs.YthmiekinjfaflaaGreat.M
/-! ### sums over lists of whatever -/
def Sg {α : Type} (f : α → Int) : List α → Int
  | [] => 0
  | x :: t => f x + Sg f t
theorem Sg_append {α : Type} (f : α → Int) : ∀ A B : List α, Sg f (A ++ B) = Sg f A + Sg f B
  | [], B => by simp [Sg]
  | a :: t, B => by rw [List.cons_append, Sg, Sg, Sg_append f t B]; omega
theorem Sg_map {α β : Type} (f : β → Int) (g : α → β) : ∀ X : List α, Sg f (X.map g) = Sg (fun n => f (g n)) X
  | [] => rfl
  | x :: t => by rw [List.map_cons, Sg, Sg, Sg_map f g t]
theorem Sg_congr {α : Type} {f g : α → Int} : ∀ {X : List α}, (∀ x ∈ X, f x = g x) → Sg f X = Sg g X
  | [], _ => rfl
  | x :: t, h => by rw [Sg, Sg, h x (by simp), Sg_congr fun y hy => h y (List.mem_cons_of_mem _ hy)]
theorem Sg_sub {α : Type} (f g : α → Int) : ∀ X : List α, Sg (fun n => f n - g n) X = Sg f X - Sg g X
  | [] => rfl
  | x :: t => by rw [Sg, Sg, Sg, Sg_sub f g t]; omega
theorem Sg_filter {α : Type} (f : α → Int) (p : α → Bool) (h0 : ∀ x, p x = false → f x = 0) : ∀ X : List α, Sg f (X.filter p) = Sg f X
  | [] => rfl
  | x :: t => by
    rw [List.filter_cons, Sg]
    cases hp : p x with
    | true => rw [if_pos rfl, Sg, Sg_filter f p h0 t]
    | false => rw [if_neg (by simp), Sg_filter f p h0 t, h0 x hp]; omega
theorem Sg_nonneg {α : Type} {f : α → Int} : ∀ {X : List α}, (∀ x ∈ X, 0 ≤ f x) → 0 ≤ Sg f X
  | [], _ => Int.le_refl _
  | x :: t, h => by
    have h1 := h x (by simp)
    have h2 := Sg_nonneg fun y hy => h y (List.mem_cons_of_mem x hy)
    rw [Sg]; omega
theorem Sg_len {α : Type} {f : α → Int} : ∀ {X : List α}, (∀ x ∈ X, 1 ≤ f x) → (X.length : Int) ≤ Sg f X
  | [], _ => Int.le_refl _
  | x :: t, h => by
    have h1 := h x (by simp)
    have h2 := Sg_len fun y hy => h y (List.mem_cons_of_mem x hy)
    rw [Sg, List.length_cons]; omega
theorem Sg_one {α : Type} (X : List α) : Sg (fun _ => 1) X = X.length := by
  induction X with
  | nil => rfl
  | cons x t ih => rw [Sg, ih, List.length_cons]; omega
theorem Sg_take {α : Type} {f : α → Int} {X : List α} {k : Nat} {x : α} (hk : X[k]? = some x) : Sg f (X.take (k + 1)) = Sg f (X.take k) + f x := by
  rw [List.take_add_one, hk, Sg_append]; simp [Sg]
theorem Sg_part {α : Type} {f : α → Int} {X : List α} (h : ∀ x ∈ X, 0 ≤ f x) (k : Nat) : 0 ≤ Sg f (X.take k) ∧ Sg f (X.take k) ≤ Sg f X := by
  have h1 := Sg_nonneg fun y hy => h y (List.mem_of_mem_take (i := k) hy)
  have h2 := Sg_nonneg fun y hy => h y (List.mem_of_mem_drop (i := k) hy)
  have h3 := Sg_append f (X.take k) (X.drop k)
  rw [List.take_append_drop] at h3
  omega
theorem Sg_swap {α β : Type} (f : α → β → Int) (X : List α) (Y : List β) : Sg (fun x => Sg (f x) Y) X = Sg (fun y => Sg (fun x => f x y) X) Y := by
  induction X with
  | nil =>
    have : ∀ Y : List β, Sg (fun y => Sg (fun x => f x y) ([] : List α)) Y = 0 := by
      intro Y; induction Y with
      | nil => rfl
      | cons y t ih => rw [Sg, ih]; rfl
    rw [this]; rfl
  | cons x t ih =>
    rw [Sg, ih]
    clear ih
    induction Y with
    | nil => rfl
    | cons y u ih2 => rw [Sg, Sg, Sg, Sg, ← ih2]; omega
/-- a list of different ones, all in another one that is as long: the same sum -/
theorem Sg_inj {α : Type} [DecidableEq α] (g : α → Int) : ∀ A K : List α, A.Nodup → (∀ x ∈ A, x ∈ K) → A.length = K.length → Sg g A = Sg g K
  | [], K, _, _, hl => by rw [List.eq_nil_of_length_eq_zero (l := K) (by simpa using hl.symm)]
  | a :: t, K, hn, hm, hl => by
    obtain ⟨s, u, rfl⟩ := List.append_of_mem (hm a (by simp))
    obtain ⟨n1, n2⟩ := List.nodup_cons.1 hn
    have := Sg_inj g t (s ++ u) n2 (fun x hx => by
      have h1 := hm x (List.mem_cons_of_mem _ hx)
      rw [List.mem_append, List.mem_cons] at h1
      rw [List.mem_append]
      rcases h1 with h1 | h1 | h1
      · exact .inl h1
      · exact absurd (h1 ▸ hx) n1
      · exact .inr h1) (by simp only [List.length_append, List.length_cons] at hl ⊢; omega)
    rw [Sg, this, Sg_append, Sg_append, Sg]; omega
/-! ### tops -/
def kids2 (f : Int) : List Int := [2 * f, 2 * f + 1]
def forks (h : Int) (L : List Int) : List Int := (tree h L).filter (frk h L)
def tops (h : Int) (L : List Int) : List Int := 1 :: (forks h L).flatMap kids2
def dfX (h : Int) (L : List Int) : List Int := (tops h L).filter fun n => decide (dnV h L n ≠ n)
def dfL (h : Int) (L : List Int) : List (Int × Int) := if setE h L = 0 then (if L.length = 0 then [(1, 0)] else (dfX h L).map fun n => (n, dnV h L n)) else []
section
variable {h : Int} {L : List Int}
theorem forks_mem (hs : setB h L = true) {f : Int} : f ∈ forks h L ↔ inT h L (2 * f) = true ∧ inT h L (2 * f + 1) = true := by
  unfold forks
  rw [List.mem_filter, (tree_facts hs).2.1, frk_eq, Bool.and_eq_true]
  constructor
  · exact fun h => h.2
  · intro ⟨h1, h2⟩
    refine ⟨?_, h1, h2⟩
    have k := ok_of (inT_iff.1 h1).1
    have := (inT_up h1 (by omega)).1
    rw [show 2 * f / 2 = f by omega] at this
    exact this
theorem forks_ok (hs : setB h L = true) {f : Int} (hf : f ∈ forks h L) : okB h f = true ∧ f < p2 h ∧ inT h L f = true ∧ 1 ≤ f := by
  obtain ⟨h1, h2⟩ := (forks_mem hs).1 hf
  have k := ok_of (inT_iff.1 h1).1
  have := (inT_up h1 (by omega)).1
  rw [show 2 * f / 2 = f by omega] at this
  exact ⟨(inT_iff.1 this).1, by omega, this, by omega⟩
theorem forks_rise (hs : setB h L = true) : (forks h L).Pairwise (· < ·) := (tree_facts hs).1.filter _
theorem forks_len (hs : setB h L = true) (h0 : L ≠ []) : (forks h L).length + 1 = L.length := by
  have := (counts hs h0).1
  unfold forks; omega
theorem kids2_flat (X : List Int) : (X.flatMap kids2).length = 2 * X.length := by
  induction X with
  | nil => rfl
  | cons x t ih => rw [List.flatMap_cons, List.length_append, ih, List.length_cons]; unfold kids2; simp; omega
theorem tops_len (hs : setB h L = true) (h0 : L ≠ []) : (tops h L).length + 1 = 2 * L.length := by
  have := forks_len hs h0
  unfold tops
  rw [List.length_cons, kids2_flat]; omega
theorem tops_mem {n : Int} : n ∈ tops h L ↔ n = 1 ∨ n / 2 ∈ forks h L := by
  unfold tops
  rw [List.mem_cons, List.mem_flatMap]
  constructor
  · rintro (h1 | ⟨f, hf, hn⟩)
    · exact .inl h1
    · refine .inr ?_
      unfold kids2 at hn
      simp at hn
      rw [show n / 2 = f by omega]; exact hf
  · rintro (h1 | hf)
    · exact .inl h1
    · exact .inr ⟨n / 2, hf, by unfold kids2; simp; omega⟩
theorem tops_rise (hs : setB h L = true) : (tops h L).Pairwise (· < ·) := by
  unfold tops
  rw [List.pairwise_cons]
  refine ⟨fun x hx => ?_, flat_rise (fun n => by unfold kids2; simp; omega) (fun n c hc => by unfold kids2 at hc; simp at hc; omega) (forks_rise hs)⟩
  obtain ⟨f, hf, hn⟩ := List.mem_flatMap.1 hx
  have := (forks_ok hs hf).2.2.2
  unfold kids2 at hn
  simp at hn; omega
theorem tops_in (hs : setB h L = true) (h0 : L ≠ []) {n : Int} (hn : n ∈ tops h L) : inT h L n = true := by
  rcases tops_mem.1 hn with rfl | hf
  · exact inT_root hs h0
  · obtain ⟨h1, h2⟩ := (forks_mem hs).1 hf
    by_cases hp : n % 2 = 0
    · rw [show n = 2 * (n / 2) by omega]; exact h1
    · rw [show n = 2 * (n / 2) + 1 by omega]; exact h2
/-- a node of the tree, and the deepest one above all leaves of the set below it -/
theorem dn_of (hs : setB h L = true) {n : Int} (hn : inT h L n = true) : ∃ B b c, Dn h L n B b c (dnV h L n) := by
  have hk := (inT_iff.1 hn).1
  obtain ⟨e, v⟩ := isV_yes hs hk
  rw [hn] at v
  unfold isV at v
  have hp := of_decide_eq_true v
  have D := dn_mk e (by omega)
  have hv := D.dn_zero.2.1
  rw [← hv] at D
  exact ⟨_, _, _, D⟩
/-- a fork below a node: the deepest one is no deeper -/
theorem fork_deep (hs : setB h L = true) {n f m : Int} {B : List Int} {b c : Int} (D : Dn h L n B b c m) (hf : f ∈ forks h L) (hnf : abv n f = true) : dep m ≤ dep f := by
  obtain ⟨i1, i2⟩ := (forks_mem hs).1 hf
  obtain ⟨kf, fl, -, f1⟩ := forks_ok hs hf
  obtain ⟨c1, c2, c3, c4, c5⟩ := child_span kf fl
  obtain ⟨k1, i, hi, hi1, hi2⟩ := inT_iff.1 i1
  obtain ⟨k2, j, hj, hj1, hj2⟩ := inT_iff.1 i2
  have hw := (within_iff D.ok kf).2 hnf
  have bi := D.all i (D.from' i hi (by omega) (by omega))
  have bj := D.all j (D.from' j hj (by omega) (by omega))
  have hsp := D.span
  have hx : ¬ (high h m < low h (2 * f) ∨ high h (2 * f) < low h m) := by omega
  rw [apart_iff D.om k1] at hx
  by_cases h1 : abv m (2 * f) = true
  · have h3 := abv_iff.1 h1
    have hd : dep (2 * f) = dep f + 1 := by have := child_dep (s := 0) f1 (.inl rfl); rwa [Int.add_zero] at this
    by_cases he : dep m = dep (2 * f)
    · exfalso
      have h4 := h3.2
      rw [he, up_self] at h4
      have h5 : high h m = high h (2 * f) := by rw [h4]
      omega
    · omega
  · by_cases h2 : abv (2 * f) m = true
    · exfalso
      have := (within_iff k1 D.om).2 h2
      omega
    · exact absurd ⟨h1, h2⟩ hx
theorem dv_apart (hs : setB h L = true) (h0 : L ≠ []) {n m : Int} (hn : n ∈ tops h L) (hm : m ∈ tops h L) (hd : dep n < dep m) : dnV h L n ≠ dnV h L m := by
  intro he
  obtain ⟨B, b, c, D⟩ := dn_of hs (tops_in hs h0 hn)
  obtain ⟨B', b', c', D'⟩ := dn_of hs (tops_in hs h0 hm)
  rw [← he] at D'
  have hdn := dep_nonneg n
  have km := ok_of D'.ok
  have k1 := (ok_of D.om).2.2.1
  -- n is above m
  have g1 := abv_iff.1 D.anm
  have g2 := abv_iff.1 D'.anm
  have hnm : abv n m = true := by
    refine abv_iff.2 ⟨by omega, ?_⟩
    rw [← g2.2, up_up k1 hdn (by omega) g2.1, g1.2]
  rcases tops_mem.1 hm with rfl | hf
  · have : dep 1 = 0 := by decide +kernel
    omega
  · have hm2 : 2 ≤ m := by have := (forks_ok hs hf).2.2.2; omega
    have hdm : dep (m / 2) = dep m - 1 := by
      rw [← up_one, up_dep km.2.2.1 (by omega) (by omega)]
    have hnf : abv n (m / 2) = true := by
      refine abv_iff.2 ⟨by omega, ?_⟩
      rw [← up_one, up_up km.2.2.1 hdn (by omega) (by omega)]
      exact (abv_iff.1 hnm).2
    have := fork_deep hs D hf hnf
    omega
theorem dv_inj (hs : setB h L = true) (h0 : L ≠ []) {n m : Int} (hn : n ∈ tops h L) (hm : m ∈ tops h L) (he : dnV h L n = dnV h L m) : n = m := by
  rcases Int.lt_trichotomy (dep n) (dep m) with hd | hd | hd
  · exact absurd he (dv_apart hs h0 hn hm hd)
  · obtain ⟨B, b, c, D⟩ := dn_of hs (tops_in hs h0 hn)
    obtain ⟨B', b', c', D'⟩ := dn_of hs (tops_in hs h0 hm)
    rw [← he] at D'
    rw [← (abv_iff.1 D.anm).2, ← (abv_iff.1 D'.anm).2, hd]
  · exact absurd he.symm (dv_apart hs h0 hm hn hd)
theorem dv_in (hs : setB h L = true) (h0 : L ≠ []) {n : Int} (hn : n ∈ tops h L) : dnV h L n ∈ forks h L ++ L.map (fun i => p2 h + i) := by
  obtain ⟨B, b, c, D⟩ := dn_of hs (tops_in hs h0 hn)
  rw [List.mem_append]
  by_cases hd : dep (dnV h L n) = h
  · refine .inr (List.mem_map.2 ⟨b, (D.all b D.mb).1, ?_⟩)
    have := (abv_iff.1 D.mab).2
    have h5 := up_self (p2 h + b)
    rw [D.db] at h5
    rw [hd, h5] at this
    exact this
  · exact .inl (D.fork hd)
/-- an additive function: what the tops have less what the deepest ones below them have -/
theorem tops_sum (hs : setB h L = true) (h0 : L ≠ []) (f : Int → Int) (hf : ∀ n, okB h n = true → n < p2 h → f n = f (2 * n) + f (2 * n + 1)) :
    Sg (fun n => f n - f (dnV h L n)) (dfX h L) + Sg (fun i => f (p2 h + i)) L = f 1 := by
  have e1 : Sg (fun n => f n - f (dnV h L n)) (dfX h L) = Sg (fun n => f n - f (dnV h L n)) (tops h L) := by
    unfold dfX
    refine Sg_filter _ _ (fun x hx => ?_) _
    have : dnV h L x = x := by simpa using hx
    rw [this]; omega
  have e2 : Sg f (tops h L) = f 1 + Sg f (forks h L) := by
    unfold tops
    rw [Sg]
    congr 1
    have hok := fun n (hn : n ∈ forks h L) => forks_ok hs hn
    revert hok
    induction forks h L with
    | nil => intro _; rfl
    | cons x t ih =>
      intro hok
      rw [List.flatMap_cons, Sg_append, Sg, ih fun n hn => hok n (List.mem_cons_of_mem _ hn)]
      have hx := hok x (by simp)
      rw [hf x hx.1 hx.2.1]
      unfold kids2
      simp [Sg]
  have e3 : Sg (fun n => f (dnV h L n)) (tops h L) = Sg f (forks h L) + Sg (fun i => f (p2 h + i)) L := by
    rw [← Sg_map f (dnV h L), ← Sg_map f (fun i => p2 h + i) L, ← Sg_append]
    refine Sg_inj f _ _ ?_ (fun x hx => ?_) ?_
    · have hr := tops_rise hs
      refine List.pairwise_map.2 (List.Pairwise.imp_of_mem ?_ hr)
      intro a b ha hb hab he
      have := dv_inj hs h0 ha hb he
      omega
    · obtain ⟨n, hn, rfl⟩ := List.mem_map.1 hx
      exact dv_in hs h0 hn
    · have := tops_len hs h0
      have := forks_len hs h0
      simp only [List.length_map, List.length_append]; omega
  rw [e1, Sg_sub, e2, e3]; omega
end
end Go.Proofs.YthmiekinjfaflaaGreat.M
namespace Go.Proofs.YthmiekinjfaflaaGreat
namespace M
/-- of a top of depth i those that are useful, of the first m depths below it -/
def c1 (h : Int) (i : Nat) : Nat → Nat
  | 0 => 0
  | m + 1 => c1 h i m + (if useV h (p2 i) (p2 ((i + 1 + m : Nat) : Int) + 1) = true then 1 else 0)
def cA (h : Int) (n : Nat) : Nat → Nat
  | 0 => 0
  | i + 1 => cA h n i + c1 h i (n - i)
def prV (h : Int) : Int := if htB h then (cA h h.toNat (h.toNat + 1) : Nat) else 0
def prE (h : Int) : Int := if htB h then 0 else 1
theorem c1_le (h : Int) (i : Nat) : ∀ m, c1 h i m ≤ m
  | 0 => Nat.le_refl _
  | m + 1 => by
    have := c1_le h i m
    unfold c1
    split <;> omega
theorem cA_le (h : Int) (n : Nat) : ∀ i, cA h n i ≤ i * n
  | 0 => by simp [cA]
  | i + 1 => by
    have := cA_le h n i
    have := c1_le h i (n - i)
    unfold cA
    rw [Nat.succ_mul]; omega
def prOk (h : Nat) : Bool := decide ((h : Int) ≤ prV h) && decide (prV h ≤ (h : Int) * (h + 1) / 2) && (decide (1 < stp h) || decide (prV h = (h : Int) * (h + 1) / 2))
theorem prOk_all : ∀ h : Fin 32, prOk (h.val + 1) = true := by decide +kernel
theorem pr_facts {h : Int} (h1 : 1 ≤ h) (h2 : h ≤ 32) : h ≤ prV h ∧ prV h ≤ h * (h + 1) / 2 ∧ (1 < stp h ∨ prV h = h * (h + 1) / 2) := by
  have := prOk_all ⟨(h - 1).toNat, by omega⟩
  unfold prOk at this
  rw [show (((h - 1).toNat + 1 : Nat) : Int) = h by omega] at this
  simp only [Bool.and_eq_true, Bool.or_eq_true, decide_eq_true_eq] at this
  exact ⟨this.1.1, this.1.2, this.2⟩
theorem up_p2 {h : Int} {k : Nat} (hk : (k : Int) ≤ h) : up (p2 h) k = p2 k := by
  have hh : 0 ≤ h := by omega
  have hd : dep (p2 h) = h := (dep_iff (p2 h) h (by have := p2_pos h; omega) hh).2 ⟨Int.le_refl _, by have := p2_pos h; omega⟩
  unfold up
  rw [hd]
  have : p2 h = p2 k * p2 (h - k) := by rw [← p2_add (by omega) (by omega)]; congr 1; omega
  rw [this]
  exact Int.mul_ediv_cancel _ (by have := p2_pos (h - k); omega)
end M
end Go.Proofs.YthmiekinjfaflaaGreat
