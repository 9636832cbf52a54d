/-
  Rows of rows of places; what near comes to. Conditions: each theorem's own premises.
-/
import Derived.Test.YthkkclhjpgkhaaaY2
namespace Go.Proofs.Ythkkclhjpgkhaaa
open Go.RowKit
abbrev SlT := Option Addr × Nat × Nat
/-- a slice's head, as the program holds it -/
def slV (x : SlT) : Value := .slice x.1 x.2.1 x.2.2
def elSl : Elt Try.prog SlT where
  st := 45
  et := 23
  enc := fun x => [slV x]
  size := 1
  bytes := 24
  zero := .slice none 0 0
  ok := fun _ => True
  pos := by decide
  small := by decide
  len := fun _ => rfl
  one := by intro x u hu; simp at hu; subst hu; rfl
  ht := Try.underlying45
  info := by kernel_rfl
  zs := rfl
theorem elSl_cells (L : List SlT) : elSl.cells L = L.map slV := by
  unfold Elt.cells
  induction L with
  | nil => rfl
  | cons x L ih => rw [List.flatMap_cons, ih]; rfl
theorem elSl_zeros (n : Nat) : (madeCells #[Value.slice none 0 0] n).toList = elSl.cells (List.replicate n (none, 0, 0)) := by
  rw [elSl_cells, List.map_replicate]
  refine List.ext_getElem? fun j => ?_
  by_cases h : j < n
  · simp [madeCells, h, slV, Nat.mod_one]
  · simp [madeCells, h]
/-- rows of places, each in memory of its own -/
def Nst (W : World) (base ga n : Nat) (F : Nat → List Int) : Prop :=
  ∃ R : List SlT, R.length = n ∧ W.ownsRow base 23 1 (.slice (some ⟨ga, 0, none⟩) n n) n (elSl.cells R) ∧ (∀ (j : Nat) (x : SlT), R[j]? = some x → W.ownsRow base 3 1 (slV x) (F j).length (elInt.cells (F j))) ∧
    ∀ (i j : Nat) (x y : SlT), R[i]? = some x → R[j]? = some y → i ≠ j → ∀ k, (slV x).ownBlock = some k → (slV y).ownBlock ≠ some k
theorem Nst.outs {T : Nat → Prop} {W W' : World} {base ga n : Nat} {F : Nat → List Int} (h : Nst W base ga n F) (ho : Outs T W W') (hT : ∀ i, base ≤ i → i < W.heap.size → ¬ T i) : Nst W' base ga n F := by
  obtain ⟨R, h1, h2, h3, h4⟩ := h
  exact ⟨R, h1, own_outs h2 ho fun k hk => hT k (h2.lt k hk).1 (h2.lt k hk).2, fun j x hx => own_outs (h3 j x hx) ho fun k hk => hT k ((h3 j x hx).lt k hk).1 ((h3 j x hx).lt k hk).2, h4⟩
theorem Nst.below {W W' : World} {base ga n : Nat} {F : Nat → List Int} (h : Nst W base ga n F) (hb : Below W.heap.size W W') : Nst W' base ga n F := h.outs (T := fun _ => False) (Outs.of_below hb) fun _ _ _ h => h
theorem Nst.block {W : World} {base ga n : Nat} {F : Nat → List Int} (h : Nst W base ga n F) : base ≤ ga ∧ ga < W.heap.size := by
  obtain ⟨R, h1, h2, h3, h4⟩ := h
  exact h2.lt ga rfl
/-- the row at a place -/
theorem Nst.at {W : World} {base ga n : Nat} {F : Nat → List Int} (h : Nst W base ga n F) {p : Nat} (hp : p < n) : ∃ x : SlT, W.cell? ⟨ga, p, none⟩ = some (.slice x.1 x.2.1 x.2.2) ∧ W.ownsRow base 3 1 (.slice x.1 x.2.1 x.2.2) (F p).length (elInt.cells (F p)) := by
  obtain ⟨R, h1, h2, h3, h4⟩ := h
  have hx : R[p]? = some (R[p]'(by omega)) := List.getElem?_eq_getElem _
  refine ⟨R[p]'(by omega), ?_, h3 p _ hx⟩
  rw [h2.cellAt p (by omega), elSl_cells, List.getElem?_map, hx]; rfl
/-- one more at a place -/
theorem Nst.more {W : World} {base ga n : Nat} {F : Nat → List Int} (h : Nst W base ga n F) {p : Nat} (hp : p < n) : ∃ x : SlT, W.cell? ⟨ga, p, none⟩ = some (.slice x.1 x.2.1 x.2.2) ∧ W.ownsRow base 3 1 (.slice x.1 x.2.1 x.2.2) (F p).length (elInt.cells (F p)) ∧
    ∀ (o : Obj) (k : Int) (v6 : Value) (w6 : World), w6.ownsRow base 3 1 v6 ((F p).length + 1) (elInt.cells (F p ++ [k])) → (W.alloc o).grownBy w6 (Value.slice x.1 x.2.1 x.2.2).ownBlock → (∀ k, v6.ownBlock = some k → (Value.slice x.1 x.2.1 x.2.2).ownBlock = some k ∨ (W.alloc o).heap.size ≤ k) →
      w6.cell? ⟨ga, p, none⟩ = some (.slice x.1 x.2.1 x.2.2) ∧ w6.frozen? ⟨ga, p, none⟩ = false ∧ Nst (w6.setCell ⟨ga, p, none⟩ v6) base ga n (M.app1 F p k) ∧ Outs (fun i => base ≤ i) W (w6.setCell ⟨ga, p, none⟩ v6) ∧ ∀ B, B < W.heap.size → B ≠ ga → (∀ z e cs, W.heap[B]? = some (.cells cs e z) → e ≠ 3) → (w6.setCell ⟨ga, p, none⟩ v6).heap[B]? = W.heap[B]? := by
  obtain ⟨R, h1, h2, h3, h4⟩ := h
  have hx : R[p]? = some (R[p]'(by omega)) := List.getElem?_eq_getElem _
  have hxo := h3 p _ hx
  generalize R[p]'(by omega) = x at *
  have hcell : W.cell? ⟨ga, p, none⟩ = some (.slice x.1 x.2.1 x.2.2) := by rw [h2.cellAt p (by omega), elSl_cells, List.getElem?_map, hx]; rfl
  refine ⟨x, hcell, hxo, fun o k v6 w6 hown hg hf => ?_⟩
  obtain ⟨ao, m, rfl, _⟩ := own_formq hown
  have hga : (slV x).ownBlock ≠ some ga := own_apartq h2 hxo (by decide) rfl
  have h26 : w6.ownsRow base 23 1 (.slice (some ⟨ga, 0, none⟩) n n) n (elSl.cells R) := (h2.alloc o).kept hg (.inr fun e => hga e.symm)
  have h6g : (Value.slice ao ((F p).length + 1) m).ownBlock ≠ some ga := own_apartq h26 hown (by decide) rfl
  have hO : Outs (fun i => i = ga) w6 (w6.setCell ⟨ga, p, none⟩ (.slice ao ((F p).length + 1) m)) := Outs.set w6 _ rfl
  have hgr : ∀ k, (slV x).ownBlock = some k → base ≤ k := fun k hk => (hxo.lt k hk).1
  refine ⟨(by rw [h26.cellAt p (by omega), elSl_cells, List.getElem?_map, hx]; rfl), h26.frozenAt p, ⟨R.set p (ao, (F p).length + 1, m), by simpa using h1, ?_, ?_, ?_⟩, ?_, ?_⟩
  · have := (h26.stored p (.slice ao ((F p).length + 1) m)).1
    rw [elSl_cells] at this ⊢
    rw [List.map_set]
    exact this
  · intro j y hy
    rw [List.getElem?_set] at hy
    by_cases e : p = j
    · subst e
      rw [if_pos rfl, if_pos (by omega)] at hy
      cases hy
      have e1 : M.app1 F p k p = F p ++ [k] := if_pos rfl
      rw [e1, List.length_append, List.length_singleton]
      exact own_outs hown hO fun q hq e => by subst e; exact h6g hq
    · rw [if_neg e] at hy
      have e1 : M.app1 F p k j = F j := if_neg fun h => e h.symm
      rw [e1]
      have hy6 : w6.ownsRow base 3 1 (slV y) (F j).length (elInt.cells (F j)) := ((h3 j y hy).alloc o).kept hg (by
        cases hb : (slV y).ownBlock with
        | none => exact .inl rfl
        | some q => exact .inr fun e' => h4 p j x y hx hy e q e'.symm hb)
      exact own_outs hy6 hO fun q hq e' => by subst e'; exact own_apartq h26 hy6 (by decide) rfl hq
  · intro i j y z hy hz hij q hq
    rw [List.getElem?_set] at hy hz
    by_cases e : p = i
    · subst e
      rw [if_pos rfl, if_pos (by omega)] at hy
      cases hy
      rw [if_neg hij] at hz
      intro hzq
      rcases hf q hq with h | h
      · exact h4 p j x z hx hz hij q h hzq
      · have := ((h3 j z hz).lt q hzq).2
        simp at h; omega
    · rw [if_neg e] at hy
      by_cases e' : p = j
      · subst e'
        rw [if_pos rfl, if_pos (by omega)] at hz
        cases hz
        intro hzq
        rcases hf q hzq with h | h
        · exact h4 i p y x hy hx hij q hq h
        · have := ((h3 i y hy).lt q hq).2
          simp at h; omega
      · rw [if_neg e'] at hz
        exact h4 i j y z hy hz hij q hq
  · exact (Outs.alloc W o).trans ((Outs.of_grown hg hgr).trans (Outs.set w6 _ (h2.lt ga rfl).1))
  · intro B hB hne hty
    rw [heap_setCell_other w6 ⟨ga, p, none⟩ B _ hne, hg.block B (by simp; omega) fun e => ?_, Below.heap_alloc _ _ _ hB]
    replace e : some B = (slV x).ownBlock := e
    rcases hxo.2 with ⟨e1, _⟩ | ⟨g, cap, cur, e1, _, hgg, _⟩
    · rw [e1] at e; cases e
    · rw [e1] at e
      cases e
      exact hty _ _ _ hgg rfl
end Go.Proofs.Ythkkclhjpgkhaaa
