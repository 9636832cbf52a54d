/-
  What a term is made of, and what that is made of, and so on: the mathematics of it; what the document's own Within comes to at every input. Condition: the slice holds terms.
-/
import Derived.Test.YthkkclhjpgkhaaaT8
namespace Go.Proofs.Ythkkclhjpgkhaaa
open Go.RowKit
namespace M
/-- from place i on, by parts, where only places from c on are looked into -/
def Rk (A : List Tm) (i c j : Nat) : Prop := ∀ S : Nat → Prop, S i → (∀ (a : Nat) (p : Int), S a → c ≤ a → p ∈ parts (at_ A a) → S p.toNat) → S j
theorem Rk.self {A : List Tm} {i c : Nat} : Rk A i c i := fun _ h _ => h
theorem Rk.step {A : List Tm} {i c a : Nat} {p : Int} (h : Rk A i c a) (hc : c ≤ a) (hp : p ∈ parts (at_ A a)) : Rk A i c p.toNat := fun S h0 h1 => h1 a p (h S h0 h1) hc hp
theorem Rk.ind {A : List Tm} {i c j : Nat} {P : Nat → Prop} (h : Rk A i c j) (h0 : P i) (h1 : ∀ (a : Nat) (p : Int), Rk A i c a → P a → c ≤ a → p ∈ parts (at_ A a) → P p.toNat) : P j :=
  (h (fun x => Rk A i c x ∧ P x) ⟨.self, h0⟩ fun a p ⟨ha, hP⟩ hc hp => ⟨ha.step hc hp, h1 a p ha hP hc hp⟩).2
theorem Rk.le {A : List Tm} (hA : Ok A) {i c : Nat} (hi : i < A.length) {j : Nat} (h : Rk A i c j) : j ≤ i := by
  refine h.ind (P := fun j => j ≤ i) (Nat.le_refl _) fun a p _ ih _ hp => ?_
  have := parts_ahead (hA.2 a (by omega)).1 p hp
  omega
theorem Rk.top {A : List Tm} (hA : Ok A) {i : Nat} (hi : i < A.length) {j : Nat} : Rk A i (i + 1) j ↔ j = i := by
  constructor
  · intro h
    refine h.ind (P := fun j => j = i) rfl fun a p ha _ hc _ => ?_
    have := ha.le hA hi
    omega
  · rintro rfl; exact .self
theorem Rk.mono {A : List Tm} {i c c' : Nat} (hc : c' ≤ c) {j : Nat} (h : Rk A i c j) : Rk A i c' j :=
  h.ind (P := fun j => Rk A i c' j) .self fun _ _ _ ih h1 hp => ih.step (by omega) hp
theorem Rk.down {A : List Tm} (hA : Ok A) {i : Nat} (hi : i < A.length) {k : Nat} (hk : k ≤ i) {j : Nat} : Rk A i k j ↔ Rk A i (k + 1) j ∨ (Rk A i (k + 1) k ∧ ∃ p ∈ parts (at_ A k), p.toNat = j) := by
  have pa : ∀ p ∈ parts (at_ A k), 0 ≤ p ∧ p < (k : Int) := parts_ahead (hA.2 k (by omega)).1
  constructor
  · intro h
    refine h.ind (P := fun j => Rk A i (k + 1) j ∨ (Rk A i (k + 1) k ∧ ∃ p ∈ parts (at_ A k), p.toNat = j)) (.inl .self) fun a p _ ih hc hp => ?_
    by_cases e : a = k
    · subst e
      refine .inr ⟨?_, p, hp, rfl⟩
      rcases ih with h | ⟨h, _⟩
      · exact h
      · exact h
    · rcases ih with h | ⟨_, q, hq, e2⟩
      · exact .inl (h.step (by omega) hp)
      · have := pa q hq; omega
  · rintro (h | ⟨h, p, hp, rfl⟩)
    · exact h.mono (by omega)
    · exact (h.mono (by omega)).step (by omega) hp
/-- the same, worked out: s places, from i down, are looked into -/
def rkF (A : List Tm) (i : Nat) : Nat → Nat → Bool
  | 0, j => decide (j = i)
  | s + 1, j => rkF A i s j || (rkF A i s (i - s) && (parts (at_ A (i - s))).any (fun p => decide (p.toNat = j)))
def rkB (A : List Tm) (i c j : Nat) : Bool := rkF A i (i + 1 - c) j
theorem rkF_iff {A : List Tm} (hA : Ok A) {i : Nat} (hi : i < A.length) : ∀ (s : Nat), s ≤ i + 1 → ∀ j, rkF A i s j = true ↔ Rk A i (i + 1 - s) j
  | 0, _, j => by
    rw [rkF, decide_eq_true_iff, Nat.sub_zero, Rk.top hA hi]
  | s + 1, h, j => by
    have ih := rkF_iff hA hi s (by omega)
    rw [rkF, Bool.or_eq_true, Bool.and_eq_true, List.any_eq_true, ih, ih, show i + 1 - (s + 1) = i - s by omega, Rk.down hA hi (show i - s ≤ i by omega), show i - s + 1 = i + 1 - s by omega]
    constructor
    · rintro (h | ⟨h, p, hp, e⟩)
      · exact .inl h
      · exact .inr ⟨h, p, hp, of_decide_eq_true e⟩
    · rintro (h | ⟨h, p, hp, e⟩)
      · exact .inl h
      · exact .inr ⟨h, p, hp, decide_eq_true e⟩
theorem rkB_iff {A : List Tm} (hA : Ok A) {i : Nat} (hi : i < A.length) {c j : Nat} (hc : c ≤ i + 1) : rkB A i c j = true ↔ Rk A i c j := by
  unfold rkB
  rw [rkF_iff hA hi _ (by omega), show i + 1 - (i + 1 - c) = c by omega]
def rowB (f : Nat → Bool) (n : Nat) : List Bool := (List.range n).map f
theorem rowB_len (f : Nat → Bool) (n : Nat) : (rowB f n).length = n := by simp [rowB]
theorem rowB_get (f : Nat → Bool) {n k : Nat} (h : k < n) : (rowB f n)[k]? = some (f k) := by simp [rowB, h]
theorem rowB_set (f : Nat → Bool) (n p : Nat) : (rowB f n).set p true = rowB (fun j => f j || decide (j = p)) n := by
  refine List.ext_getElem? fun j => ?_
  rw [List.getElem?_set]
  unfold rowB
  by_cases h : p = j
  · subst h
    by_cases hp : p < n <;> simp [hp]
  · rw [if_neg h]
    have h' : ¬ j = p := fun e => h e.symm
    by_cases hj : j < n <;> simp [hj, h']
theorem rowB_congr {f g : Nat → Bool} {n : Nat} (h : ∀ j, j < n → f j = g j) : rowB f n = rowB g n := by
  unfold rowB
  exact List.map_congr_left fun j hj => h j (List.mem_range.1 hj)
def fq (f : Nat → Bool) (ps : List Int) (q : Nat) : Nat → Bool := fun j => f j || (ps.take q).any (fun p => decide (j = p.toNat))
theorem fq_zero (f : Nat → Bool) (ps : List Int) : fq f ps 0 = f := by funext j; simp [fq]
theorem fq_succ (f : Nat → Bool) (ps : List Int) (q : Nat) (p : Nat) (h : ps[q]? = some (p : Int)) : (fun j => fq f ps q j || decide (j = p)) = fq f ps (q + 1) := by
  obtain ⟨hq, e⟩ := List.getElem?_eq_some_iff.1 h
  funext j
  unfold fq
  rw [List.take_succ_eq_append_getElem hq, e, List.any_append]
  simp [Bool.or_assoc]
theorem fq_all {A : List Tm} (hA : Ok A) {i : Nat} (hi : i < A.length) {k : Nat} (hk : k ≤ i) (hr : Rk A i (k + 1) k) (n : Nat) : rowB (fq (rkB A i (k + 1)) (parts (at_ A k)) (parts (at_ A k)).length) n = rowB (rkB A i k) n := by
  refine rowB_congr fun j _ => ?_
  rw [Bool.eq_iff_iff, rkB_iff hA hi (by omega), Rk.down hA hi hk]
  unfold fq
  rw [List.take_length, Bool.or_eq_true, rkB_iff hA hi (by omega), List.any_eq_true]
  constructor
  · rintro (h | ⟨p, hp, e⟩)
    · exact .inl h
    · exact .inr ⟨hr, p, hp, (of_decide_eq_true e).symm⟩
  · rintro (h | ⟨_, p, hp, e⟩)
    · exact .inl h
    · exact .inr ⟨p, hp, decide_eq_true e.symm⟩
theorem rk_skip {A : List Tm} (hA : Ok A) {i : Nat} (hi : i < A.length) {k : Nat} (hk : k ≤ i) (hr : ¬ Rk A i (k + 1) k) (n : Nat) : rowB (rkB A i (k + 1)) n = rowB (rkB A i k) n := by
  refine rowB_congr fun j _ => ?_
  rw [Bool.eq_iff_iff, rkB_iff hA hi (by omega), rkB_iff hA hi (by omega), Rk.down hA hi hk]
  constructor
  · exact .inl
  · rintro (h | ⟨h, _⟩)
    · exact h
    · exact absurd h hr
def outL (f : Nat → Bool) (k : Nat) : List Int := ((List.range k).filter f).map (fun j : Nat => (j : Int))
theorem outL_yes (f : Nat → Bool) (k : Nat) (h : f k = true) : outL f (k + 1) = outL f k ++ [(k : Int)] := by
  unfold outL; rw [List.range_succ, List.filter_append, List.map_append]; simp [h]
theorem outL_no (f : Nat → Bool) (k : Nat) (h : f k = false) : outL f (k + 1) = outL f k := by
  unfold outL; rw [List.range_succ, List.filter_append, List.map_append]; simp [h]
theorem outL_len (f : Nat → Bool) (k : Nat) : (outL f k).length ≤ k := by
  unfold outL; rw [List.length_map]; exact Nat.le_trans (List.length_filter_le _ _) (by simp)
theorem outL_mem (f : Nat → Bool) (k : Nat) (x : Int) : x ∈ outL f k ↔ ∃ j : Nat, j < k ∧ f j = true ∧ x = j := by
  unfold outL
  rw [List.mem_map]
  constructor
  · rintro ⟨j, hj, rfl⟩
    rw [List.mem_filter, List.mem_range] at hj
    exact ⟨j, hj.1, hj.2, rfl⟩
  · rintro ⟨j, h1, h2, rfl⟩
    exact ⟨j, by rw [List.mem_filter, List.mem_range]; exact ⟨h1, h2⟩, rfl⟩
def withinL (A : List Tm) (i : Int) : List Int := if thr A i = true then outL (rkB A i.toNat 0) (i.toNat + 1) else []
end M
theorem elBool_cells (L : List Bool) : elBool.cells L = L.map (fun x => .bool x) := by
  induction L with
  | nil => rfl
  | cons x L ih =>
    show [Value.bool x] ++ elBool.cells L = _
    rw [ih]; rfl
theorem elBool_zeros (n : Nat) : (madeCells #[Value.bool false] n).toList = elBool.cells (M.rowB (fun _ => false) n) := by
  rw [elBool_cells]
  unfold M.rowB
  rw [List.map_map, toList_madeCells_one]
  refine List.ext_getElem? fun j => ?_
  by_cases h : j < n <;> simp [h]
theorem ownB_cell {w : World} {base : Nat} {e : TypeId} {g n cap : Nat} {f : Nat → Bool} (h : w.ownsRow base e 1 (.slice (some ⟨g, 0, none⟩) n cap) n (elBool.cells (M.rowB f n))) {k : Nat} (hk : k < n) : w.cell? ⟨g, k, none⟩ = some (.bool (f k)) := by
  rw [h.cellAt k (by omega), elBool_cells, List.getElem?_map, M.rowB_get f hk]; rfl
theorem ownB_store {w : World} {base : Nat} {e : TypeId} {g n cap : Nat} {f : Nat → Bool} (h : w.ownsRow base e 1 (.slice (some ⟨g, 0, none⟩) n cap) n (elBool.cells (M.rowB f n))) (p : Nat) : (w.setCell ⟨g, p, none⟩ (.bool true)).ownsRow base e 1 (.slice (some ⟨g, 0, none⟩) n cap) n (elBool.cells (M.rowB (fun j => f j || decide (j = p)) n)) := by
  have := (h.stored p (.bool true)).1
  rwa [elBool_cells, ← List.map_set, M.rowB_set, ← elBool_cells] at this
end Go.Proofs.Ythkkclhjpgkhaaa
