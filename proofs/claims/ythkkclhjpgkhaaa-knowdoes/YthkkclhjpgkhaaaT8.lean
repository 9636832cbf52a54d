/-
  What the document's own Deep comes to at every input. Condition: the slice holds terms.
-/
import Derived.Test.YthkkclhjpgkhaaaT7
import Derived.OneCell
import Derived.RegionTactic
namespace Go.Proofs.Ythkkclhjpgkhaaa
open Go.RowKit
namespace M
def pf (A : List Tm) (ps : List Int) (q : Nat) : Int := (ps.take q).foldl (fun m p => max m (deepV A p.toNat + 1)) 0
theorem pf_zero (A : List Tm) (ps : List Int) : pf A ps 0 = 0 := by simp [pf]
theorem pf_succ (A : List Tm) (ps : List Int) (q : Nat) (h : q < ps.length) : pf A ps (q + 1) = max (pf A ps q) (deepV A (ps[q]?.getD 0).toNat + 1) := by
  unfold pf
  rw [List.take_succ_eq_append_getElem h, List.foldl_append, List.getElem?_eq_getElem h]
  rfl
theorem pf_all (A : List Tm) (t : Tm) : pf A (parts t) (parts t).length = stepD (deepV A) t := by unfold pf stepD; rw [List.take_length]
theorem fold_bd (d : Int → Int) (c : Int) (hc : 0 ≤ c) : ∀ (ps : List Int) (m : Int), 0 ≤ m → m ≤ c → (∀ p ∈ ps, d p + 1 ≤ c) → 0 ≤ ps.foldl (fun m p => max m (d p + 1)) m ∧ ps.foldl (fun m p => max m (d p + 1)) m ≤ c
  | [], m, h0, h1, _ => ⟨h0, h1⟩
  | p :: ps, m, h0, h1, h => by
    rw [List.foldl_cons]
    have hp := h p (by simp)
    exact fold_bd d c hc ps _ (by omega) (by omega) (fun q hq => h q (by simp [hq]))
theorem deepV_bd {A : List Tm} (hA : Ok A) : ∀ (n i : Nat), i < n → i < A.length → 0 ≤ deepV A i ∧ deepV A i ≤ i := by
  intro n
  induction n with
  | zero => intro i h; omega
  | succ n ih =>
    intro i hn hi
    have hp := parts_ahead (hA.2 i hi).1
    rw [deepV_eq i hp]
    unfold stepD
    refine fold_bd (fun p => deepV A p.toNat) i (by omega) _ 0 (by omega) (by omega) fun p hq => ?_
    have h1 := hp p hq
    have := ih p.toNat (by omega) (by omega)
    omega
theorem pf_bd {A : List Tm} (hA : Ok A) {i : Nat} (hi : i < A.length) (q : Nat) : 0 ≤ pf A (parts (at_ A i)) q ∧ pf A (parts (at_ A i)) q ≤ i := by
  unfold pf
  refine fold_bd (fun p => deepV A p.toNat) i (by omega) _ 0 (by omega) (by omega) fun p hq => ?_
  have h1 := parts_ahead (hA.2 i hi).1 p (List.mem_of_mem_take hq)
  have := deepV_bd hA (p.toNat + 1) p.toNat (by omega) (by omega)
  omega
def rowD (A : List Tm) (k n : Nat) (F : Int) : List Int := deepT A k ++ F :: List.replicate (n - (k + 1)) 0
def rowO (A : List Tm) (k n : Nat) : List Int := deepT A k ++ List.replicate (n - k) 0
theorem rowD_len {A : List Tm} {k n : Nat} {F : Int} (h : k < n) : (rowD A k n F).length = n := by unfold rowD; rw [List.length_append, deepT_length, List.length_cons, List.length_replicate]; omega
theorem rowO_len {A : List Tm} {k n : Nat} (h : k ≤ n) : (rowO A k n).length = n := by unfold rowO; rw [List.length_append, deepT_length, List.length_replicate]; omega
theorem rowD_k (A : List Tm) (k n : Nat) (F : Int) : (rowD A k n F)[k]? = some F := by
  unfold rowD; rw [List.getElem?_append_right (by rw [deepT_length]; omega), deepT_length]; simp
theorem rowD_p {A : List Tm} {k n : Nat} {F : Int} {p : Nat} (h : p < k) : (rowD A k n F)[p]? = some (deepV A p) := by
  unfold rowD
  rw [List.getElem?_append_left (by rw [deepT_length]; exact h)]
  have h1 := deepT_get A p k h
  rw [List.getElem?_eq_getElem (by rw [deepT_length]; exact h)] at h1 ⊢
  rw [← h1]; rfl
theorem rowD_set (A : List Tm) (k n : Nat) (F F' : Int) : (rowD A k n F).set k F' = rowD A k n F' := by
  unfold rowD; rw [List.set_append, if_neg (by rw [deepT_length]; omega), deepT_length]; simp
theorem rowO_start {A : List Tm} {k n : Nat} (h : k < n) : rowO A k n = rowD A k n 0 := by
  unfold rowO rowD
  rw [show n - k = (n - (k + 1)) + 1 by omega, List.replicate_succ]
theorem rowO_next {A : List Tm} {k n : Nat} (hp : ∀ p ∈ parts (at_ A k), 0 ≤ p ∧ p < (k : Int)) : rowD A k n (stepD (deepV A) (at_ A k)) = rowO A (k + 1) n := by
  unfold rowO rowD
  rw [deepT, List.append_assoc]
  congr 1
  have h1 := deepV_eq k hp
  unfold deepV at h1
  rw [deepT, List.getElem?_append_right (by rw [deepT_length]; omega), deepT_length] at h1
  simp only [Nat.sub_self, List.getElem?_cons_zero, Option.getD_some] at h1
  have h2 : stepD (deepV A) (at_ A k) = stepD (fun p => (deepT A k)[p]?.getD 0) (at_ A k) := h1.symm
  rw [h2]; rfl
theorem rowO_get {A : List Tm} {i n : Nat} (h : i < n) : (rowO A n n)[i]? = some (deepV A i) := by
  unfold rowO
  rw [Nat.sub_self, List.replicate_zero, List.append_nil]
  have h1 := deepT_get A i n h
  rw [List.getElem?_eq_getElem (by rw [deepT_length]; exact h)] at h1 ⊢
  rw [← h1]; rfl
theorem parts_le (t : Tm) : (parts t).length ≤ 2 := by unfold parts; split <;> (try split) <;> simp
def deepE (A : List Tm) (i : Int) : Int := if thr A i = true then 0 else 1
def dpV (A : List Tm) (i : Int) : Int := if thr A i = true then deepV A i.toNat else 0
end M
theorem elInt_set (D : List Int) (k : Nat) (x : Int) : (elInt.cells D).set k (.int .i64 x) = elInt.cells (D.set k x) := by rw [elInt_cells, elInt_cells, List.map_set]
theorem elInt_get (D : List Int) (k : Nat) (x : Int) (h : D[k]? = some x) : (elInt.cells D)[k]? = some (.int .i64 x) := by rw [elInt_cells, List.getElem?_map, h]; rfl
theorem elInt_zeros (n : Nat) : (madeCells #[Value.int .i64 0] n).toList = elInt.cells (List.replicate n 0) := by
  rw [elInt_cells, List.map_replicate]
  exact toList_madeCells_one _ _
theorem own_keptq {w w' : World} {base : Nat} {e : TypeId} {size : Nat} {v : Value} {n : Nat} {xs : List Value} (h : w.ownsRow base e size v n xs) (hb : Below w.heap.size w w') : w'.ownsRow base e size v n xs :=
  h.kept (row := none) ⟨hb.os, hb.tape, hb.output, hb.size, fun k hk _ => hb.block k hk⟩ (by cases hv : v.ownBlock <;> simp)
theorem own_formq {w : World} {base : Nat} {e : TypeId} {size : Nat} {v : Value} {n : Nat} {xs : List Value} (h : w.ownsRow base e size v n xs) : ∃ ao cap, v = .slice ao n cap ∧ (0 < n → ∃ g, ao = some ⟨g, 0, none⟩ ∧ base ≤ g) := by
  rcases h.2 with ⟨h1, h2⟩ | ⟨g, cap, cur, h1, h2, _⟩
  · exact ⟨none, 0, by rw [h1, h2], fun h => by omega⟩
  · exact ⟨_, cap, h1, fun _ => ⟨g, rfl, h2⟩⟩
theorem own_cellq {w : World} {base : Nat} {e : TypeId} {g n cap : Nat} {D : List Int} (h : w.ownsRow base e 1 (.slice (some ⟨g, 0, none⟩) n cap) n (elInt.cells D)) {k : Nat} {x : Int} (hk : k < n) (hx : D[k]? = some x) : w.cell? ⟨g, k, none⟩ = some (.int .i64 x) := by
  rw [h.cellAt k (by omega)]; exact elInt_get D k x hx
theorem own_storeq {w : World} {base : Nat} {e : TypeId} {g n cap : Nat} {D : List Int} (h : w.ownsRow base e 1 (.slice (some ⟨g, 0, none⟩) n cap) n (elInt.cells D)) (k : Nat) (x : Int) : (w.setCell ⟨g, k, none⟩ (.int .i64 x)).ownsRow base e 1 (.slice (some ⟨g, 0, none⟩) n cap) n (elInt.cells (D.set k x)) := by
  have := (h.stored k (.int .i64 x)).1
  rwa [elInt_set] at this
theorem own_otherq {w : World} {base : Nat} {e : TypeId} {size n : Nat} {v : Value} {xs : List Value} (h : w.ownsRow base e size v n xs) {g k : Nat} (hg : g < base) (u : Value) : (w.setCell ⟨g, k, none⟩ u).ownsRow base e size v n xs := ownsRow_setCell_below h hg u
theorem Try.infoIntq : (Try.prog.info? 3).map (fun i => (i.zero, i.size, i.bytes)) = some (some (.int .i64 0), 1, 8) := by kernel_rfl
end Go.Proofs.Ythkkclhjpgkhaaa
