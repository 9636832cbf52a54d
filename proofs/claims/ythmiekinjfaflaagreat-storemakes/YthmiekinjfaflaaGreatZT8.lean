/-
  What the document's own Deep comes to at every input. Condition: the slice holds terms.
-/
import Derived.Test.YthmiekinjfaflaaGreatZT5
import Derived.OneCell
import Derived.RegionTactic
namespace Go.Proofs.YthmiekinjfaflaaGreat
open Go.RowKit
namespace M
def pf (A : List Tm) (ps : List Int) (q : Nat) : Int := (ps.take q).foldl (fun m p => max m (deepV A p.toNat + 1)) 0
theorem pf_zero (A : List Tm) (ps : List Int) : pf A ps 0 = 0 := by simp [pf]
theorem pf_succ (A : List Tm) (ps : List Int) (q : Nat) (h : q < ps.length) : pf A ps (q + 1) = max (pf A ps q) (deepV A (ps[q]?.getD 0).toNat + 1) := by
  unfold pf
  rw [List.take_succ_eq_append_getElem h, List.foldl_append, List.getElem?_eq_getElem h]
  rfl
theorem pf_all (A : List Tm) (t : Tm) : pf A (parts t) (parts t).length = stepD (deepV A) t := by unfold pf stepD; rw [List.take_length]
theorem fold_bd (d : Int → Int) (c : Int) (hc : 0 ≤ c) : ∀ (ps : List Int) (m : Int), 0 ≤ m → m ≤ c → (∀ p ∈ ps, d p + 1 ≤ c) → 0 ≤ ps.foldl (fun m p => max m (d p + 1)) m ∧ ps.foldl (fun m p => max m (d p + 1)) m ≤ c
  | [], m, h0, h1, _ => ⟨h0, h1⟩
  | p :: ps, m, h0, h1, h => by
    rw [List.foldl_cons]
    have hp := h p (by simp)
    exact fold_bd d c hc ps _ (by omega) (by omega) (fun q hq => h q (by simp [hq]))
theorem deepV_bd {A : List Tm} (hA : Ok A) : ∀ (n i : Nat), i < n → i < A.length → 0 ≤ deepV A i ∧ deepV A i ≤ i := by
  intro n
  induction n with
  | zero => intro i h; omega
  | succ n ih =>
    intro i hn hi
    have hp := parts_ahead (hA.2 i hi).1
    rw [deepV_eq i hp]
    unfold stepD
    refine fold_bd (fun p => deepV A p.toNat) i (by omega) _ 0 (by omega) (by omega) fun p hq => ?_
    have h1 := hp p hq
    have := ih p.toNat (by omega) (by omega)
    omega
theorem pf_bd {A : List Tm} (hA : Ok A) {i : Nat} (hi : i < A.length) (q : Nat) : 0 ≤ pf A (parts (at_ A i)) q ∧ pf A (parts (at_ A i)) q ≤ i := by
  unfold pf
  refine fold_bd (fun p => deepV A p.toNat) i (by omega) _ 0 (by omega) (by omega) fun p hq => ?_
  have h1 := parts_ahead (hA.2 i hi).1 p (List.mem_of_mem_take hq)
  have := deepV_bd hA (p.toNat + 1) p.toNat (by omega) (by omega)
  omega
def rowD (A : List Tm) (k n : Nat) (F : Int) : List Int := deepT A k ++ F :: List.replicate (n - (k + 1)) 0
def rowO (A : List Tm) (k n : Nat) : List Int := deepT A k ++ List.replicate (n - k) 0
theorem rowD_len {A : List Tm} {k n : Nat} {F : Int} (h : k < n) : (rowD A k n F).length = n := by unfold rowD; rw [List.length_append, deepT_length, List.length_cons, List.length_replicate]; omega
theorem rowO_len {A : List Tm} {k n : Nat} (h : k ≤ n) : (rowO A k n).length = n := by unfold rowO; rw [List.length_append, deepT_length, List.length_replicate]; omega
theorem rowD_k (A : List Tm) (k n : Nat) (F : Int) : (rowD A k n F)[k]? = some F := by
  unfold rowD; rw [List.getElem?_append_right (by rw [deepT_length]; omega), deepT_length]; simp
theorem rowD_p {A : List Tm} {k n : Nat} {F : Int} {p : Nat} (h : p < k) : (rowD A k n F)[p]? = some (deepV A p) := by
  unfold rowD
  rw [List.getElem?_append_left (by rw [deepT_length]; exact h)]
  have h1 := deepT_get A p k h
  rw [List.getElem?_eq_getElem (by rw [deepT_length]; exact h)] at h1 ⊢
  rw [← h1]; rfl
theorem rowD_set (A : List Tm) (k n : Nat) (F F' : Int) : (rowD A k n F).set k F' = rowD A k n F' := by
  unfold rowD; rw [List.set_append, if_neg (by rw [deepT_length]; omega), deepT_length]; simp
theorem rowO_start {A : List Tm} {k n : Nat} (h : k < n) : rowO A k n = rowD A k n 0 := by
  unfold rowO rowD
  rw [show n - k = (n - (k + 1)) + 1 by omega, List.replicate_succ]
theorem rowO_next {A : List Tm} {k n : Nat} (hp : ∀ p ∈ parts (at_ A k), 0 ≤ p ∧ p < (k : Int)) : rowD A k n (stepD (deepV A) (at_ A k)) = rowO A (k + 1) n := by
  unfold rowO rowD
  rw [deepT, List.append_assoc]
  congr 1
  have h1 := deepV_eq k hp
  unfold deepV at h1
  rw [deepT, List.getElem?_append_right (by rw [deepT_length]; omega), deepT_length] at h1
  simp only [Nat.sub_self, List.getElem?_cons_zero, Option.getD_some] at h1
  have h2 : stepD (deepV A) (at_ A k) = stepD (fun p => (deepT A k)[p]?.getD 0) (at_ A k) := h1.symm
  rw [h2]; rfl
theorem rowO_get {A : List Tm} {i n : Nat} (h : i < n) : (rowO A n n)[i]? = some (deepV A i) := by
  unfold rowO
  rw [Nat.sub_self, List.replicate_zero, List.append_nil]
  have h1 := deepT_get A i n h
  rw [List.getElem?_eq_getElem (by rw [deepT_length]; exact h)] at h1 ⊢
  rw [← h1]; rfl
theorem parts_le (t : Tm) : (parts t).length ≤ 2 := by unfold parts; split <;> (try split) <;> simp
def deepE (A : List Tm) (i : Int) : Int := if thr A i = true then 0 else 1
def dpV (A : List Tm) (i : Int) : Int := if thr A i = true then deepV A i.toNat else 0
end M
theorem elInt_set (D : List Int) (k : Nat) (x : Int) : (elInt.cells D).set k (.int .i64 x) = elInt.cells (D.set k x) := by rw [elInt_cells, elInt_cells, List.map_set]
theorem elInt_get (D : List Int) (k : Nat) (x : Int) (h : D[k]? = some x) : (elInt.cells D)[k]? = some (.int .i64 x) := by rw [elInt_cells, List.getElem?_map, h]; rfl
theorem elInt_zeros (n : Nat) : (madeCells #[Value.int .i64 0] n).toList = elInt.cells (List.replicate n 0) := by
  rw [elInt_cells, List.map_replicate]
  exact toList_madeCells_one _ _
theorem own_keptq {w w' : World} {base : Nat} {e : TypeId} {size : Nat} {v : Value} {n : Nat} {xs : List Value} (h : w.ownsRow base e size v n xs) (hb : Below w.heap.size w w') : w'.ownsRow base e size v n xs :=
  h.kept (row := none) ⟨hb.os, hb.tape, hb.output, hb.size, fun k hk _ => hb.block k hk⟩ (by cases hv : v.ownBlock <;> simp)
theorem own_formq {w : World} {base : Nat} {e : TypeId} {size : Nat} {v : Value} {n : Nat} {xs : List Value} (h : w.ownsRow base e size v n xs) : ∃ ao cap, v = .slice ao n cap ∧ (0 < n → ∃ g, ao = some ⟨g, 0, none⟩ ∧ base ≤ g) := by
  rcases h.2 with ⟨h1, h2⟩ | ⟨g, cap, cur, h1, h2, _⟩
  · exact ⟨none, 0, by rw [h1, h2], fun h => by omega⟩
  · exact ⟨_, cap, h1, fun _ => ⟨g, rfl, h2⟩⟩
theorem own_cellq {w : World} {base : Nat} {e : TypeId} {g n cap : Nat} {D : List Int} (h : w.ownsRow base e 1 (.slice (some ⟨g, 0, none⟩) n cap) n (elInt.cells D)) {k : Nat} {x : Int} (hk : k < n) (hx : D[k]? = some x) : w.cell? ⟨g, k, none⟩ = some (.int .i64 x) := by
  rw [h.cellAt k (by omega)]; exact elInt_get D k x hx
theorem own_storeq {w : World} {base : Nat} {e : TypeId} {g n cap : Nat} {D : List Int} (h : w.ownsRow base e 1 (.slice (some ⟨g, 0, none⟩) n cap) n (elInt.cells D)) (k : Nat) (x : Int) : (w.setCell ⟨g, k, none⟩ (.int .i64 x)).ownsRow base e 1 (.slice (some ⟨g, 0, none⟩) n cap) n (elInt.cells (D.set k x)) := by
  have := (h.stored k (.int .i64 x)).1
  rwa [elInt_set] at this
theorem own_otherq {w : World} {base : Nat} {e : TypeId} {size n : Nat} {v : Value} {xs : List Value} (h : w.ownsRow base e size v n xs) {g k : Nat} (hg : g < base) (u : Value) : (w.setCell ⟨g, k, none⟩ u).ownsRow base e size v n xs := ownsRow_setCell_below h hg u
set_option maxRecDepth 100000 in
theorem Tryz.infoIntq : (Tryz.prog.info? 3).map (fun i => (i.zero, i.size, i.bytes)) = some (some (.int .i64 0), 1, 8) := by kernel_rfl
end Go.Proofs.YthmiekinjfaflaaGreat
namespace Go.Proofs.YthmiekinjfaflaaGreat
open Go.RowKit
namespace M
/-- from place i on, by parts, where only places from c on are looked into -/
def Rk (A : List Tm) (i c j : Nat) : Prop := ∀ S : Nat → Prop, S i → (∀ (a : Nat) (p : Int), S a → c ≤ a → p ∈ parts (at_ A a) → S p.toNat) → S j
theorem Rk.self {A : List Tm} {i c : Nat} : Rk A i c i := fun _ h _ => h
theorem Rk.step {A : List Tm} {i c a : Nat} {p : Int} (h : Rk A i c a) (hc : c ≤ a) (hp : p ∈ parts (at_ A a)) : Rk A i c p.toNat := fun S h0 h1 => h1 a p (h S h0 h1) hc hp
theorem Rk.ind {A : List Tm} {i c j : Nat} {P : Nat → Prop} (h : Rk A i c j) (h0 : P i) (h1 : ∀ (a : Nat) (p : Int), Rk A i c a → P a → c ≤ a → p ∈ parts (at_ A a) → P p.toNat) : P j :=
  (h (fun x => Rk A i c x ∧ P x) ⟨.self, h0⟩ fun a p ⟨ha, hP⟩ hc hp => ⟨ha.step hc hp, h1 a p ha hP hc hp⟩).2
theorem Rk.le {A : List Tm} (hA : Ok A) {i c : Nat} (hi : i < A.length) {j : Nat} (h : Rk A i c j) : j ≤ i := by
  refine h.ind (P := fun j => j ≤ i) (Nat.le_refl _) fun a p _ ih _ hp => ?_
  have := parts_ahead (hA.2 a (by omega)).1 p hp
  omega
theorem Rk.top {A : List Tm} (hA : Ok A) {i : Nat} (hi : i < A.length) {j : Nat} : Rk A i (i + 1) j ↔ j = i := by
  constructor
  · intro h
    refine h.ind (P := fun j => j = i) rfl fun a p ha _ hc _ => ?_
    have := ha.le hA hi
    omega
  · rintro rfl; exact .self
theorem Rk.mono {A : List Tm} {i c c' : Nat} (hc : c' ≤ c) {j : Nat} (h : Rk A i c j) : Rk A i c' j :=
  h.ind (P := fun j => Rk A i c' j) .self fun _ _ _ ih h1 hp => ih.step (by omega) hp
theorem Rk.down {A : List Tm} (hA : Ok A) {i : Nat} (hi : i < A.length) {k : Nat} (hk : k ≤ i) {j : Nat} : Rk A i k j ↔ Rk A i (k + 1) j ∨ (Rk A i (k + 1) k ∧ ∃ p ∈ parts (at_ A k), p.toNat = j) := by
  have pa : ∀ p ∈ parts (at_ A k), 0 ≤ p ∧ p < (k : Int) := parts_ahead (hA.2 k (by omega)).1
  constructor
  · intro h
    refine h.ind (P := fun j => Rk A i (k + 1) j ∨ (Rk A i (k + 1) k ∧ ∃ p ∈ parts (at_ A k), p.toNat = j)) (.inl .self) fun a p _ ih hc hp => ?_
    by_cases e : a = k
    · subst e
      refine .inr ⟨?_, p, hp, rfl⟩
      rcases ih with h | ⟨h, _⟩
      · exact h
      · exact h
    · rcases ih with h | ⟨_, q, hq, e2⟩
      · exact .inl (h.step (by omega) hp)
      · have := pa q hq; omega
  · rintro (h | ⟨h, p, hp, rfl⟩)
    · exact h.mono (by omega)
    · exact (h.mono (by omega)).step (by omega) hp
/-- the same, worked out: s places, from i down, are looked into -/
def rkF (A : List Tm) (i : Nat) : Nat → Nat → Bool
  | 0, j => decide (j = i)
  | s + 1, j => rkF A i s j || (rkF A i s (i - s) && (parts (at_ A (i - s))).any (fun p => decide (p.toNat = j)))
def rkB (A : List Tm) (i c j : Nat) : Bool := rkF A i (i + 1 - c) j
theorem rkF_iff {A : List Tm} (hA : Ok A) {i : Nat} (hi : i < A.length) : ∀ (s : Nat), s ≤ i + 1 → ∀ j, rkF A i s j = true ↔ Rk A i (i + 1 - s) j
  | 0, _, j => by
    rw [rkF, decide_eq_true_iff, Nat.sub_zero, Rk.top hA hi]
  | s + 1, h, j => by
    have ih := rkF_iff hA hi s (by omega)
    rw [rkF, Bool.or_eq_true, Bool.and_eq_true, List.any_eq_true, ih, ih, show i + 1 - (s + 1) = i - s by omega, Rk.down hA hi (show i - s ≤ i by omega), show i - s + 1 = i + 1 - s by omega]
    constructor
    · rintro (h | ⟨h, p, hp, e⟩)
      · exact .inl h
      · exact .inr ⟨h, p, hp, of_decide_eq_true e⟩
    · rintro (h | ⟨h, p, hp, e⟩)
      · exact .inl h
      · exact .inr ⟨h, p, hp, decide_eq_true e⟩
theorem rkB_iff {A : List Tm} (hA : Ok A) {i : Nat} (hi : i < A.length) {c j : Nat} (hc : c ≤ i + 1) : rkB A i c j = true ↔ Rk A i c j := by
  unfold rkB
  rw [rkF_iff hA hi _ (by omega), show i + 1 - (i + 1 - c) = c by omega]
def rowB (f : Nat → Bool) (n : Nat) : List Bool := (List.range n).map f
theorem rowB_len (f : Nat → Bool) (n : Nat) : (rowB f n).length = n := by simp [rowB]
theorem rowB_get (f : Nat → Bool) {n k : Nat} (h : k < n) : (rowB f n)[k]? = some (f k) := by simp [rowB, h]
theorem rowB_set (f : Nat → Bool) (n p : Nat) : (rowB f n).set p true = rowB (fun j => f j || decide (j = p)) n := by
  refine List.ext_getElem? fun j => ?_
  rw [List.getElem?_set]
  unfold rowB
  by_cases h : p = j
  · subst h
    by_cases hp : p < n <;> simp [hp]
  · rw [if_neg h]
    have h' : ¬ j = p := fun e => h e.symm
    by_cases hj : j < n <;> simp [hj, h']
theorem rowB_congr {f g : Nat → Bool} {n : Nat} (h : ∀ j, j < n → f j = g j) : rowB f n = rowB g n := by
  unfold rowB
  exact List.map_congr_left fun j hj => h j (List.mem_range.1 hj)
def fq (f : Nat → Bool) (ps : List Int) (q : Nat) : Nat → Bool := fun j => f j || (ps.take q).any (fun p => decide (j = p.toNat))
theorem fq_zero (f : Nat → Bool) (ps : List Int) : fq f ps 0 = f := by funext j; simp [fq]
theorem fq_succ (f : Nat → Bool) (ps : List Int) (q : Nat) (p : Nat) (h : ps[q]? = some (p : Int)) : (fun j => fq f ps q j || decide (j = p)) = fq f ps (q + 1) := by
  obtain ⟨hq, e⟩ := List.getElem?_eq_some_iff.1 h
  funext j
  unfold fq
  rw [List.take_succ_eq_append_getElem hq, e, List.any_append]
  simp [Bool.or_assoc]
theorem fq_all {A : List Tm} (hA : Ok A) {i : Nat} (hi : i < A.length) {k : Nat} (hk : k ≤ i) (hr : Rk A i (k + 1) k) (n : Nat) : rowB (fq (rkB A i (k + 1)) (parts (at_ A k)) (parts (at_ A k)).length) n = rowB (rkB A i k) n := by
  refine rowB_congr fun j _ => ?_
  rw [Bool.eq_iff_iff, rkB_iff hA hi (by omega), Rk.down hA hi hk]
  unfold fq
  rw [List.take_length, Bool.or_eq_true, rkB_iff hA hi (by omega), List.any_eq_true]
  constructor
  · rintro (h | ⟨p, hp, e⟩)
    · exact .inl h
    · exact .inr ⟨hr, p, hp, (of_decide_eq_true e).symm⟩
  · rintro (h | ⟨_, p, hp, e⟩)
    · exact .inl h
    · exact .inr ⟨p, hp, decide_eq_true e.symm⟩
theorem rk_skip {A : List Tm} (hA : Ok A) {i : Nat} (hi : i < A.length) {k : Nat} (hk : k ≤ i) (hr : ¬ Rk A i (k + 1) k) (n : Nat) : rowB (rkB A i (k + 1)) n = rowB (rkB A i k) n := by
  refine rowB_congr fun j _ => ?_
  rw [Bool.eq_iff_iff, rkB_iff hA hi (by omega), rkB_iff hA hi (by omega), Rk.down hA hi hk]
  constructor
  · exact .inl
  · rintro (h | ⟨h, _⟩)
    · exact h
    · exact absurd h hr
def outL (f : Nat → Bool) (k : Nat) : List Int := ((List.range k).filter f).map (fun j : Nat => (j : Int))
theorem outL_yes (f : Nat → Bool) (k : Nat) (h : f k = true) : outL f (k + 1) = outL f k ++ [(k : Int)] := by
  unfold outL; rw [List.range_succ, List.filter_append, List.map_append]; simp [h]
theorem outL_no (f : Nat → Bool) (k : Nat) (h : f k = false) : outL f (k + 1) = outL f k := by
  unfold outL; rw [List.range_succ, List.filter_append, List.map_append]; simp [h]
theorem outL_len (f : Nat → Bool) (k : Nat) : (outL f k).length ≤ k := by
  unfold outL; rw [List.length_map]; exact Nat.le_trans (List.length_filter_le _ _) (by simp)
theorem outL_mem (f : Nat → Bool) (k : Nat) (x : Int) : x ∈ outL f k ↔ ∃ j : Nat, j < k ∧ f j = true ∧ x = j := by
  unfold outL
  rw [List.mem_map]
  constructor
  · rintro ⟨j, hj, rfl⟩
    rw [List.mem_filter, List.mem_range] at hj
    exact ⟨j, hj.1, hj.2, rfl⟩
  · rintro ⟨j, h1, h2, rfl⟩
    exact ⟨j, by rw [List.mem_filter, List.mem_range]; exact ⟨h1, h2⟩, rfl⟩
def withinL (A : List Tm) (i : Int) : List Int := if thr A i = true then outL (rkB A i.toNat 0) (i.toNat + 1) else []
end M
end Go.Proofs.YthmiekinjfaflaaGreat
namespace Go.Proofs.YthmiekinjfaflaaGreat
open Go.RowKit
theorem own_lowq {w : World} {b b' : Nat} {e : TypeId} {size : Nat} {v : Value} {n : Nat} {xs : List Value} (h : w.ownsRow b e size v n xs) (hb : b' ≤ b) : w.ownsRow b' e size v n xs := by
  refine ⟨h.1, ?_⟩
  rcases h.2 with hn | ⟨g, cap, cur, h1, h2, rest⟩
  · exact .inl hn
  · exact .inr ⟨g, cap, cur, h1, Nat.le_trans hb h2, rest⟩
set_option maxRecDepth 100000 in
theorem Tryz.infoBoolq : (Tryz.prog.info? 4).map (fun i => (i.zero, i.size, i.bytes)) = some (some (.bool false), 1, 1) := by kernel_rfl
set_option maxRecDepth 100000 in
theorem Is.one (W : World) (x : Int) (h : M.fitI x) : Is (W.alloc (.cells #[.int .i64 x] 3)) (.slice (some ⟨W.heap.size, 0, none⟩) 1 1) [x] :=
  Sl.of_own (own_lit1 W 0 _ rfl (Nat.zero_le _) x) (fun y hy => by rw [List.mem_singleton] at hy; subst hy; exact h)
theorem M.row_top {A : List M.Tm} (hA : M.Ok A) {m : Nat} (hm : m < A.length) (n : Nat) : M.rowB (fun j => false || decide (j = m)) n = M.rowB (M.rkB A m (m + 1)) n := by
  refine M.rowB_congr fun j _ => ?_
  rw [Bool.eq_iff_iff, M.rkB_iff hA hm (by omega), M.Rk.top hA hm]
  simp
end Go.Proofs.YthmiekinjfaflaaGreat
namespace Go.Proofs.YthmiekinjfaflaaGreat
namespace M
theorem fold_ge (d : Int → Int) : ∀ (ps : List Int) (m : Int), m ≤ ps.foldl (fun m p => max m (d p + 1)) m ∧ ∀ p ∈ ps, d p + 1 ≤ ps.foldl (fun m p => max m (d p + 1)) m
  | [], m => ⟨Int.le_refl _, by simp⟩
  | q :: ps, m => by
    obtain ⟨h1, h2⟩ := fold_ge d ps (max m (d q + 1))
    rw [List.foldl_cons]
    refine ⟨by omega, fun p hp => ?_⟩
    rcases List.mem_cons.1 hp with rfl | hp
    · omega
    · exact h2 p hp
theorem fold_attains (d : Int → Int) : ∀ (ps : List Int) (m : Int), ps.foldl (fun m p => max m (d p + 1)) m = m ∨ ∃ p ∈ ps, ps.foldl (fun m p => max m (d p + 1)) m = d p + 1
  | [], m => .inl rfl
  | q :: ps, m => by
    rw [List.foldl_cons]
    rcases fold_attains d ps (max m (d q + 1)) with h | ⟨p, hp, h⟩
    · rw [h]
      rcases Int.le_total m (d q + 1) with h2 | h2
      · exact .inr ⟨q, by simp, by omega⟩
      · exact .inl (by omega)
    · exact .inr ⟨p, by simp [hp], h⟩
theorem deep_part {A : List Tm} (hA : Ok A) {a : Nat} (ha : a < A.length) {p : Int} (hp : p ∈ parts (at_ A a)) : deepV A p.toNat + 1 ≤ deepV A a := by
  rw [deepV_eq a (parts_ahead (hA.2 a ha).1)]
  exact (fold_ge (fun p => deepV A p.toNat) _ 0).2 p hp
theorem deep_attains {A : List Tm} (hA : Ok A) {a : Nat} (ha : a < A.length) : deepV A a = 0 ∨ ∃ p ∈ parts (at_ A a), deepV A a = deepV A p.toNat + 1 := by
  rw [deepV_eq a (parts_ahead (hA.2 a ha).1)]
  exact fold_attains (fun p => deepV A p.toNat) _ 0
theorem rk_deep {A : List Tm} (hA : Ok A) {m : Nat} (hm : m < A.length) {k : Nat} (h : Rk A m 0 k) : k ≠ m → deepV A k < deepV A m := by
  refine h.ind (P := fun k => k ≠ m → deepV A k < deepV A m) (fun h => absurd rfl h) fun a p h ih _ hp _ => ?_
  have hle := h.le hA hm
  have h1 := deep_part hA (by omega) hp
  by_cases e : a = m
  · subst e; omega
  · have := ih e; omega
/-- the list of all that it is made of -/
def Win (A : List Tm) (m : Nat) (I : List Int) : Prop :=
  0 < I.length ∧ I.length ≤ m + 1 ∧ I[I.length - 1]? = some (m : Int) ∧ (∀ (q : Nat) (x : Int), I[q]? = some x → 0 ≤ x ∧ x ≤ (m : Int) ∧ Rk A m 0 x.toNat) ∧ (∀ (q : Nat) (x y : Int), I[q]? = some x → I[q + 1]? = some y → x < y) ∧ ∀ k : Nat, Rk A m 0 k → k ≤ m → (k : Int) ∈ I
theorem outL_sorted (f : Nat → Bool) : ∀ (n q : Nat) (x y : Int), (outL f n)[q]? = some x → (outL f n)[q + 1]? = some y → x < y
  | 0, q, x, y, h, _ => by simp [outL] at h
  | n + 1, q, x, y, h, h' => by
    cases hf : f n with
    | false =>
      rw [outL_no f n hf] at h h'
      exact outL_sorted f n q x y h h'
    | true =>
      rw [outL_yes f n hf] at h h'
      by_cases hq : q + 1 < (outL f n).length
      · rw [List.getElem?_append_left (by omega)] at h
        rw [List.getElem?_append_left hq] at h'
        exact outL_sorted f n q x y h h'
      · have hq1 : q + 1 = (outL f n).length := by
          have := (List.getElem?_eq_some_iff.1 h').1
          rw [List.length_append, List.length_singleton] at this
          omega
        rw [List.getElem?_append_right (by omega), hq1, Nat.sub_self] at h'
        simp at h'
        rw [List.getElem?_append_left (by omega)] at h
        obtain ⟨j, hj, _, e⟩ := (outL_mem f n x).1 (List.mem_of_getElem? h)
        omega
theorem win_within {A : List Tm} (hA : Ok A) {m : Nat} (hm : m < A.length) : Win A m (outL (rkB A m 0) (m + 1)) := by
  have hs : rkB A m 0 m = true := (rkB_iff hA hm (by omega)).2 .self
  have e := outL_yes (rkB A m 0) m hs
  refine ⟨by rw [e]; simp, outL_len _ _, ?_, ?_, outL_sorted _ _, ?_⟩
  · rw [e, List.length_append, List.length_singleton, Nat.add_sub_cancel, List.getElem?_append_right (by omega)]
    simp
  · intro q x hx
    obtain ⟨j, hj, h2, rfl⟩ := (outL_mem _ _ _).1 (List.mem_of_getElem? hx)
    exact ⟨by omega, by omega, by rw [Int.toNat_natCast]; exact (rkB_iff hA hm (by omega)).1 h2⟩
  · intro k hk hkm
    exact (outL_mem _ _ _).2 ⟨k, by omega, (rkB_iff hA hm (by omega)).2 hk, rfl⟩
/-- the deepest one of the first q, but m itself -/
def mx (A : List Tm) (m : Nat) (I : List Int) (q : Nat) : Int := (I.take q).foldl (fun d k => if k = (m : Int) then d else max d (deepV A k.toNat)) (-1)
theorem mx_zero (A : List Tm) (m : Nat) (I : List Int) : mx A m I 0 = -1 := by simp [mx]
theorem mx_succ (A : List Tm) (m : Nat) (I : List Int) (q : Nat) (k : Int) (h : I[q]? = some k) : mx A m I (q + 1) = if k = (m : Int) then mx A m I q else max (mx A m I q) (deepV A k.toNat) := by
  obtain ⟨hq, e⟩ := List.getElem?_eq_some_iff.1 h
  unfold mx
  rw [List.take_succ_eq_append_getElem hq, List.foldl_append, e]
  rfl
theorem mx_bd {A : List Tm} (hA : Ok A) {m : Nat} (hm : m < A.length) {I : List Int} (hI : Win A m I) : ∀ q, q ≤ I.length → -1 ≤ mx A m I q ∧ mx A m I q + 1 ≤ deepV A m
  | 0, _ => by
    rw [mx_zero]
    have := (deepV_bd hA (m + 1) m (by omega) hm).1
    omega
  | q + 1, h => by
    obtain ⟨h1, h2⟩ := mx_bd hA hm hI q (by omega)
    have hk : I[q]? = some I[q] := List.getElem?_eq_getElem (by omega)
    rw [mx_succ A m I q _ hk]
    obtain ⟨k0, k1, k2⟩ := hI.2.2.2.1 q _ hk
    split
    · exact ⟨h1, h2⟩
    · rename_i hne
      have := rk_deep hA hm k2 (by omega)
      omega
theorem mx_mem {A : List Tm} {m : Nat} {I : List Int} : ∀ (q j : Nat) (k : Int), j < q → q ≤ I.length → I[j]? = some k → k ≠ (m : Int) → deepV A k.toNat ≤ mx A m I q
  | 0, j, k, h, _, _, _ => by omega
  | q + 1, j, k, h, hq, hk, hne => by
    have hx : I[q]? = some I[q] := List.getElem?_eq_getElem (by omega)
    rw [mx_succ A m I q _ hx]
    by_cases e : j = q
    · subst e
      rw [hx] at hk
      obtain rfl := Option.some.inj hk
      rw [if_neg hne]; omega
    · have := mx_mem (A := A) (m := m) q j k (by omega) (by omega) hk hne
      split <;> omega
theorem mx_all {A : List Tm} (hA : Ok A) {m : Nat} (hm : m < A.length) {I : List Int} (hI : Win A m I) : mx A m I I.length + 1 = deepV A m := by
  obtain ⟨h1, h2⟩ := mx_bd hA hm hI I.length (Nat.le_refl _)
  rcases deep_attains hA hm with h | ⟨p, hp, h⟩
  · omega
  · have pa := parts_ahead (hA.2 m hm).1 p hp
    have hin := hI.2.2.2.2.2 p.toNat (Rk.self.step (Nat.zero_le _) hp) (by omega)
    obtain ⟨j, hj⟩ := List.mem_iff_getElem?.1 hin
    have := mx_mem (A := A) (m := m) I.length j _ (List.getElem?_eq_some_iff.1 hj).1 (Nat.le_refl _) hj (by omega)
    rw [Int.toNat_natCast] at this
    omega
/-- parts of one of them are among them, and lie ahead -/
theorem win_parts {A : List Tm} (hA : Ok A) {m : Nat} (hm : m < A.length) {I : List Int} (hI : Win A m I) {q : Nat} {k : Nat} (hk : I[q]? = some (k : Int)) : ∀ p ∈ parts (at_ A k), p ∈ I ∧ 0 ≤ p ∧ p < k := by
  obtain ⟨_, k1, k2⟩ := hI.2.2.2.1 q _ hk
  rw [Int.toNat_natCast] at k2
  intro p hp
  have pa := parts_ahead (hA.2 k (by omega)).1 p hp
  have := hI.2.2.2.2.2 p.toNat (k2.step (Nat.zero_le _) hp) (by omega)
  rw [show ((p.toNat : Nat) : Int) = p by omega] at this
  exact ⟨this, pa.1, pa.2⟩
def among (I : List Int) (p : Int) (j : Nat) : Bool := (I.take j).any (fun x => decide (x = p))
theorem among_zero (I : List Int) (p : Int) : among I p 0 = false := by simp [among]
theorem among_succ (I : List Int) (p : Int) (j : Nat) (x : Int) (h : I[j]? = some x) : among I p (j + 1) = (among I p j || decide (x = p)) := by
  obtain ⟨hq, e⟩ := List.getElem?_eq_some_iff.1 h
  unfold among
  rw [List.take_succ_eq_append_getElem hq, List.any_append, e]
  simp
theorem among_all (I : List Int) (p : Int) (h : p ∈ I) : among I p I.length = true := by
  unfold among
  rw [List.take_length, List.any_eq_true]
  exact ⟨p, h, by simp⟩
end M
end Go.Proofs.YthmiekinjfaflaaGreat
namespace Go.Proofs.YthmiekinjfaflaaGreat
namespace M
/-- a place of the list -/
abbrev Pl (A : List Tm) (i : Int) : Prop := 0 ≤ i ∧ i < A.length
/-- the term at a place -/
abbrev tm (A : List Tm) (i : Int) : Tm := at_ A i.toNat
/-- what follows at once from a set -/
def Fol (A : List Tm) (S : Int → Prop) (i : Int) : Prop :=
  (((tm A i).1 = 2 ∨ (tm A i).1 = 3 ∨ (tm A i).1 = 4) ∧ S (tm A i).2.1) ∨ ((tm A i).1 = 5 ∧ S (tm A i).2.1 ∧ S (tm A i).2.2) ∨ ∃ k, S k ∧ (tm A k).1 = 5 ∧ (tm A k).2.2 = i ∧ S (tm A k).2.1
theorem Fol.mono {A : List Tm} {S T : Int → Prop} {i : Int} (h : ∀ x, S x → T x) (f : Fol A S i) : Fol A T i := by
  rcases f with ⟨a, b⟩ | ⟨a, b, c⟩ | ⟨k, a, b, c, d⟩
  · exact .inl ⟨a, h _ b⟩
  · exact .inr (.inl ⟨a, h _ b, h _ c⟩)
  · exact .inr (.inr ⟨k, h _ a, b, c, h _ d⟩)
/-- what is known: the least shut set -/
def Kn (A : List Tm) (H : List Int) (i : Int) : Prop := ∀ S : Int → Prop, (∀ h ∈ H, S h) → (∀ j, Pl A j → Fol A S j → S j) → S i
theorem Kn.base {A : List Tm} {H : List Int} {i : Int} (h : i ∈ H) : Kn A H i := fun _ h0 _ => h0 i h
theorem Kn.shut {A : List Tm} {H : List Int} {j : Int} (hp : Pl A j) (h : Fol A (Kn A H) j) : Kn A H j := fun S h0 h1 => h1 j hp (h.mono fun _ hx => hx S h0 h1)
theorem Kn.least {A : List Tm} {H : List Int} {S : Int → Prop} (h0 : ∀ h ∈ H, S h) (h1 : ∀ j, Pl A j → Fol A S j → S j) {i : Int} (h : Kn A H i) : S i := h S h0 h1
theorem Kn.ind {A : List Tm} {H : List Int} {S : Int → Prop} (h0 : ∀ h ∈ H, S h) (h1 : ∀ j, Pl A j → Fol A (fun x => Kn A H x ∧ S x) j → S j) {i : Int} (h : Kn A H i) : S i :=
  (h (fun x => Kn A H x ∧ S x) (fun x hx => ⟨.base hx, h0 x hx⟩) fun j hp hf => ⟨.shut hp (hf.mono fun _ h => h.1), h1 j hp hf⟩).2
theorem Kn.pl {A : List Tm} {H : List Int} (hH : ∀ h ∈ H, Pl A h) {i : Int} (h : Kn A H i) : Pl A i := h.least hH fun _ hp _ => hp
theorem Kn.mono {A : List Tm} {H H' : List Int} (hH : ∀ h ∈ H, Kn A H' h) {i : Int} (h : Kn A H i) : Kn A H' i := h.least hH fun _ hp hf => .shut hp hf
theorem Kn.sub {A : List Tm} {H H' : List Int} (hH : ∀ h ∈ H, h ∈ H') {i : Int} (h : Kn A H i) : Kn A H' i := h.mono fun x hx => .base (hH x hx)
theorem Kn.nil {A : List Tm} {i : Int} : ¬ Kn A [] i := fun h => by
  refine h.least (S := fun _ => False) (fun _ h => by cases h) fun j _ hf => ?_
  rcases hf with ⟨_, b⟩ | ⟨_, b, _⟩ | ⟨_, a, _⟩
  · exact b
  · exact b
  · exact a
theorem Kn.idem {A : List Tm} {H L : List Int} (hL : ∀ x, x ∈ L ↔ Kn A H x) {i : Int} : Kn A L i ↔ Kn A H i :=
  ⟨fun h => h.mono fun x hx => (hL x).1 hx, fun h => .base ((hL i).2 h)⟩
/-- a set that has what one has, and is shut, and all of which is known, is what is known -/
theorem Kn.eq {A : List Tm} {H L : List Int} (h0 : ∀ h ∈ H, h ∈ L) (h1 : ∀ j, Pl A j → Fol A (· ∈ L) j → j ∈ L) (h2 : ∀ x ∈ L, Kn A H x) (i : Int) : i ∈ L ↔ Kn A H i := ⟨h2 i, fun h => h.least h0 h1⟩
/-- as a function of places -/
theorem kn_fun (A : List Tm) (H : List Int) : ∃ f : Nat → Bool, ∀ j : Nat, f j = true ↔ Kn A H j := by
  classical
  exact ⟨fun j => decide (Kn A H j), fun j => by simp⟩
theorem mem_outL {A : List Tm} {H : List Int} (hH : ∀ h ∈ H, Pl A h) {f : Nat → Bool} (hf : ∀ j : Nat, f j = true ↔ Kn A H j) (x : Int) : x ∈ outL f A.length ↔ Kn A H x := by
  rw [outL_mem]
  constructor
  · rintro ⟨j, _, h, rfl⟩; exact (hf j).1 h
  · intro h
    obtain ⟨h0, h1⟩ := h.pl hH
    exact ⟨x.toNat, by omega, (hf _).2 (by rwa [Int.toNat_of_nonneg h0]), by omega⟩
theorem outL_congr {f g : Nat → Bool} {n : Nat} (h : ∀ j, j < n → f j = g j) : outL f n = outL g n := by
  unfold outL
  congr 1
  exact List.filter_congr fun j hj => h j (List.mem_range.1 hj)
theorem outL_rising (f : Nat → Bool) : ∀ n, (outL f n).Pairwise (· < ·)
  | 0 => by simp [outL]
  | n + 1 => by
    cases h : f n with
    | false => rw [outL_no f n h]; exact outL_rising f n
    | true =>
      rw [outL_yes f n h, List.pairwise_append]
      refine ⟨outL_rising f n, by simp, fun x hx y hy => ?_⟩
      obtain ⟨j, hj, _, rfl⟩ := (outL_mem f n x).1 hx
      rw [List.mem_singleton] at hy
      omega
/-- a chain -/
def Chn (A : List Tm) (H L : List Int) : Prop := ∀ k, k < L.length → (L[k]?.getD 0) ∉ L.take k ∧ ((L[k]?.getD 0) ∈ H ∨ Fol A (· ∈ L.take k) (L[k]?.getD 0))
theorem Chn.take {A : List Tm} {H L : List Int} (h : Chn A H L) (c : Nat) : Chn A H (L.take c) := by
  intro k hk
  rw [List.length_take] at hk
  have := h k (by omega)
  rw [List.take_take, Nat.min_eq_left (by omega), List.getElem?_take, if_pos (by omega)]
  exact this
theorem Chn.known {A : List Tm} {H L : List Int} (hL : ∀ x ∈ L, Pl A x) (h : Chn A H L) : ∀ k, k ≤ L.length → ∀ x ∈ L.take k, Kn A H x
  | 0, _, x, hx => by simp at hx
  | k + 1, hk, x, hx => by
    rw [List.take_succ_eq_append_getElem (by omega), List.mem_append, List.mem_singleton] at hx
    have ih := Chn.known hL h k (by omega)
    rcases hx with hx | rfl
    · exact ih x hx
    · have := (h k (by omega)).2
      rw [List.getElem?_eq_getElem (by omega), Option.getD_some] at this
      rcases this with h1 | h1
      · exact .base h1
      · exact .shut (hL _ (List.getElem_mem _)) (h1.mono fun y hy => ih y hy)
theorem Chn.all {A : List Tm} {H L : List Int} (hL : ∀ x ∈ L, Pl A x) (h : Chn A H L) {x : Int} (hx : x ∈ L) : Kn A H x := Chn.known hL h L.length (Nat.le_refl _) x (by rwa [List.take_length])
/-- an atom that is known is within something that one has -/
theorem Kn.atom {A : List Tm} {H : List Int} (hH : ∀ h ∈ H, Pl A h) {i : Int} (h : Kn A H i) (a : Nat) (ha : (at_ A a).1 = 1) (hr : Rk A i.toNat 0 a) : ∃ h ∈ H, Rk A h.toNat 0 a := by
  suffices key : Pl A i ∧ ∀ a : Nat, (at_ A a).1 = 1 → Rk A i.toNat 0 a → ∃ h ∈ H, Rk A h.toNat 0 a from key.2 a ha hr
  refine h.ind (S := fun i => Pl A i ∧ ∀ a : Nat, (at_ A a).1 = 1 → Rk A i.toNat 0 a → ∃ h ∈ H, Rk A h.toNat 0 a) (fun x hx => ⟨hH x hx, fun a _ hr => ⟨x, hx, hr⟩⟩) fun j hp hf => ⟨hp, fun a ha hr => ?_⟩
  -- from j one comes to a by way of one of its parts
  have first : ∀ {i j : Nat}, Rk A i 0 j → j = i ∨ ∃ p ∈ parts (at_ A i), Rk A p.toNat 0 j := by
    intro i j h
    refine h.ind (P := fun j => j = i ∨ ∃ p ∈ parts (at_ A i), Rk A p.toNat 0 j) (.inl rfl) fun b p _ ih _ hp => ?_
    rcases ih with rfl | ⟨q, hq, h2⟩
    · exact .inr ⟨p, hp, .self⟩
    · exact .inr ⟨q, hq, h2.step (by omega) hp⟩
  rcases hf with ⟨k1, b⟩ | ⟨k1, b, c⟩ | ⟨k, b, k1, e, c⟩
  · replace k1 : (at_ A j.toNat).1 = 2 ∨ (at_ A j.toNat).1 = 3 ∨ (at_ A j.toNat).1 = 4 := k1
    rcases first hr with rfl | ⟨p, hp, h2⟩
    · have : (at_ A j.toNat).1 = 1 := ha
      omega
    · have e : parts (at_ A j.toNat) = [(at_ A j.toNat).2.1] := by unfold parts; rw [if_pos k1]
      rw [e, List.mem_singleton] at hp
      subst hp
      exact b.2.2 a ha h2
  · replace k1 : (at_ A j.toNat).1 = 5 := k1
    rcases first hr with rfl | ⟨p, hp, h2⟩
    · have : (at_ A j.toNat).1 = 1 := ha
      omega
    · have e : parts (at_ A j.toNat) = [(at_ A j.toNat).2.1, (at_ A j.toNat).2.2] := by unfold parts; rw [if_neg (by omega), if_pos k1]
      rw [e] at hp
      simp only [List.mem_cons, List.not_mem_nil, or_false] at hp
      rcases hp with rfl | rfl
      · exact b.2.2 a ha h2
      · exact c.2.2 a ha h2
  · replace k1 : (at_ A k.toNat).1 = 5 := k1
    refine b.2.2 a ha ?_
    have e2 : parts (at_ A k.toNat) = [(at_ A k.toNat).2.1, (at_ A k.toNat).2.2] := by unfold parts; rw [if_neg (by omega), if_pos k1]
    have hs : Rk A k.toNat 0 j.toNat := by
      have := (Rk.self (A := A) (i := k.toNat) (c := 0)).step (p := j) (Nat.zero_le _) (by rw [e2]; simp [← e])
      exact this
    exact hr.ind (P := fun x => Rk A k.toNat 0 x) hs fun b p _ ih hc hp => ih.step hc hp
end M
end Go.Proofs.YthmiekinjfaflaaGreat
