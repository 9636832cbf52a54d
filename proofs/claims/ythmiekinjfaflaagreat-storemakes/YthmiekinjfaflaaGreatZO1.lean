/-
  A box of one value; a slice of numbers anywhere in a block of one's own, what is left behind its first one, and what 'append' makes of it. Conditions: each theorem's own premises.
-/
import Derived.Test.YthmiekinjfaflaaGreatZA3
import Derived.Test.YthmiekinjfaflaaGreatZS1
import Derived.Test.YthmiekinjfaflaaGreatZTR
import Derived.Test.YthmiekinjfaflaaGreatZW1
namespace Go.Proofs.YthmiekinjfaflaaGreat
open Go.RowKit
/-- a box of one value -/
def Bk (W : World) (B : Nat) (v : Value) (t : TypeId) : Prop := W.heap[B]? = some (.cells #[v] t (0, 0))
theorem Bk.lt {W : World} {B : Nat} {v : Value} {t : TypeId} (h : Bk W B v t) : B < W.heap.size := (Array.getElem?_eq_some_iff.1 h).1
theorem Bk.cell {W : World} {B : Nat} {v : Value} {t : TypeId} (h : Bk W B v t) : W.cell? ⟨B, 0, none⟩ = some v := by
  have h' : W.heap[B]? = _ := h
  unfold World.cell?
  rw [h']; rfl
theorem Bk.frozen {W : World} {B : Nat} {v : Value} {t : TypeId} (h : Bk W B v t) : W.frozen? ⟨B, 0, none⟩ = false := frozen_of_row W B 0 _ t h
theorem Bk.new (W : World) (v : Value) (t : TypeId) : Bk (W.alloc (.cells #[v] t)) W.heap.size v t := heap_alloc_new W _
theorem Bk.kept {W W' : World} {B : Nat} {v : Value} {t : TypeId} (h : Bk W B v t) (hk : W'.heap[B]? = W.heap[B]?) : Bk W' B v t := hk.trans h
theorem Bk.below {W W' : World} {B : Nat} {v : Value} {t : TypeId} (h : Bk W B v t) (hb : Below W.heap.size W W') : Bk W' B v t := h.kept (hb.block B h.lt)
theorem Bk.alloc {W : World} {B : Nat} {v : Value} {t : TypeId} (h : Bk W B v t) (o : Obj) : Bk (W.alloc o) B v t := h.below ((Below.refl _ _).alloc (Nat.le_refl _) o)
theorem Bk.set {W : World} {B : Nat} {v : Value} {t : TypeId} (h : Bk W B v t) (v' : Value) : Bk (W.setCell ⟨B, 0, none⟩ v') B v' t := by
  have := heap_setCell_same W B 0 #[v] t v' h
  unfold Bk
  simpa using this
/-- a box of two numbers -/
def Bd (W : World) (B : Nat) (t : TypeId) (x y : Int) : Prop := W.heap[B]? = some (.cells #[.int .u64 x, .int .u64 y] t (0, 0))
theorem Bd.lt {W : World} {B : Nat} {t : TypeId} {x y : Int} (h : Bd W B t x y) : B < W.heap.size := (Array.getElem?_eq_some_iff.1 h).1
theorem Bd.facts {W : World} {B : Nat} {t : TypeId} {x y : Int} (h : Bd W B t x y) : W.cell? ⟨B, 0, none⟩ = some (.int .u64 x) ∧ W.cell? ⟨B, 1, none⟩ = some (.int .u64 y) := by
  have h' : W.heap[B]? = _ := h
  refine ⟨?_, ?_⟩
  · simp [World.cell?, h']
  · simp [World.cell?, h']
theorem Bd.new (W : World) (t : TypeId) (x y : Int) : Bd (W.alloc (.cells #[.int .u64 x, .int .u64 y] t)) W.heap.size t x y := heap_alloc_new W _
theorem Bd.below {W W' : World} {B : Nat} {t : TypeId} {x y : Int} (h : Bd W B t x y) (hb : Below W.heap.size W W') : Bd W' B t x y := (hb.block B h.lt).trans h
theorem grown_trans {a b c : World} {row : Option Nat} (h : a.grownBy b row) (k : b.grownBy c row) : a.grownBy c row :=
  ⟨k.os.trans h.os, k.tape.trans h.tape, k.output.trans h.output, Nat.le_trans h.size k.size, fun i hi hr => (k.block i (Nat.lt_of_lt_of_le hi h.size) hr).trans (h.block i hi hr)⟩
theorem grown_set (w : World) (g k : Nat) (v : Value) : w.grownBy (w.setCell ⟨g, k, none⟩ v) (some g) :=
  ⟨rfl, rfl, rfl, by simp, fun i hi hr => heap_setCell_other w ⟨g, k, none⟩ i v (fun e => hr (by rw [e]))⟩
theorem grown_cells (b : Nat) : ∀ (vs : List Value) (o : Nat) (w : World), w.grownBy (w.setCells b o vs) (some b)
  | [], _, _ => ⟨rfl, rfl, rfl, Nat.le_refl _, fun _ _ _ => rfl⟩
  | v :: vs, o, w => grown_trans (grown_set w b o v) (grown_cells b vs (o + 1) _)
theorem cells_row (b : Nat) (t : TypeId) : ∀ (vs : List Value) (o : Nat) (cur : Array Value) (w : World), w.heap[b]? = some (.cells cur t (0, 0)) → o + vs.length ≤ cur.size →
    ∃ cur', (w.setCells b o vs).heap[b]? = some (.cells cur' t (0, 0)) ∧ cur'.size = cur.size ∧ (∀ j, j < vs.length → cur'[o + j]? = vs[j]?) ∧ (∀ k, k < o → cur'[k]? = cur[k]?)
  | [], _, cur, _, h, _ => ⟨cur, h, rfl, fun j hj => by simp at hj, fun _ _ => rfl⟩
  | v :: vs, o, cur, w, h, hl => by
    rw [List.length_cons] at hl
    obtain ⟨c', h1, h2, h3, h4⟩ := cells_row b t vs (o + 1) (cur.setIfInBounds o v) _ (heap_setCell_same w b o cur t v h) (by simp; omega)
    refine ⟨c', h1, by rw [h2]; simp, fun j hj => ?_, fun k hk => ?_⟩
    · cases j with
      | zero => rw [Nat.add_zero, h4 o (by omega)]; simp [Array.getElem?_setIfInBounds]; omega
      | succ j => rw [show o + (j + 1) = o + 1 + j by omega, h3 j (by simpa using hj)]; rfl
    · rw [h4 k (by omega), Array.getElem?_setIfInBounds, if_neg (by omega)]
/-- the block that a slice's room lies in -/
def qblk : Value → Option Nat
  | .slice (some a) _ cap => if cap = 0 then none else some a.block
  | _ => none
theorem qblk_slice (a : Addr) (n cap : Nat) : qblk (.slice (some a) n cap) = if cap = 0 then none else some a.block := rfl
theorem qblk_some {ao : Option Addr} {n cap k : Nat} (h : qblk (.slice ao n cap) = some k) : 0 < cap ∧ ∃ a, ao = some a ∧ a.block = k := by
  cases ao with
  | none => cases h
  | some a =>
    rw [qblk_slice] at h
    split at h
    · cases h
    · cases h; exact ⟨by omega, a, rfl, rfl⟩
/-- the slice v, anywhere in a block of one's own, or nil, holds the numbers L -/
def Qu (W : World) (base : Nat) (e : TypeId) (v : Value) (L : List Int) : Prop :=
  ∃ ao cap, v = .slice ao L.length cap ∧ L.length ≤ cap ∧ cap ≤ maxLen ∧ (∀ x ∈ L, 0 ≤ x ∧ x ≤ 18446744073709551615) ∧
    (0 < cap → ∃ g off cur, ao = some ⟨g, off, none⟩ ∧ base ≤ g ∧ W.heap[g]? = some (.cells cur e (0, 0)) ∧ cur.size = off + cap ∧ ∀ j, j < L.length → cur[off + j]? = some (.int .u64 (L[j]?.getD 0)))
theorem Qu.us {W : World} {base : Nat} {e : TypeId} {v : Value} {L : List Int} (h : Qu W base e v L) : Us W v L := by
  obtain ⟨ao, cap, h1, h2, h3, h4, h5⟩ := h
  refine ⟨_, cap, h1, h2, h3, h4, fun h0 => ?_⟩
  obtain ⟨g, off, cur, rfl, _, h6, h7, h8⟩ := h5 h0
  exact ⟨g, off, rfl, (Array.getElem?_eq_some_iff.1 h6).1, fun j hj => by rw [cell_of_row W g _ cur e (0, 0) h6]; exact h8 j hj⟩
theorem Qu.form {W : World} {base : Nat} {e : TypeId} {v : Value} {L : List Int} (h : Qu W base e v L) : ∃ ao cap, v = .slice ao L.length cap ∧ L.length ≤ cap ∧ (0 < L.length → ∃ g off, ao = some ⟨g, off, none⟩) := by
  obtain ⟨ao, cap, h1, h2, h3, h4, h5⟩ := h
  refine ⟨ao, cap, h1, h2, fun h0 => ?_⟩
  obtain ⟨g, off, cur, rfl, _⟩ := h5 (by omega)
  exact ⟨g, off, rfl⟩
theorem Qu.kept {W W' : World} {base : Nat} {e : TypeId} {v : Value} {L : List Int} (h : Qu W base e v L) (hk : ∀ k, qblk v = some k → W'.heap[k]? = W.heap[k]?) : Qu W' base e v L := by
  obtain ⟨ao, cap, rfl, h2, h3, h4, h5⟩ := h
  refine ⟨ao, cap, rfl, h2, h3, h4, fun h0 => ?_⟩
  obtain ⟨g, off, cur, rfl, h6, h7, h8⟩ := h5 h0
  exact ⟨g, off, cur, rfl, h6, (hk g (by rw [qblk_slice, if_neg (by omega)])).trans h7, h8⟩
theorem Qu.lt {W : World} {base : Nat} {e : TypeId} {v : Value} {L : List Int} (h : Qu W base e v L) : ∀ k, qblk v = some k → base ≤ k ∧ k < W.heap.size := by
  obtain ⟨ao, cap, rfl, h2, h3, h4, h5⟩ := h
  intro k hk
  obtain ⟨h0, a, e1, e2⟩ := qblk_some hk
  obtain ⟨g, off, cur, e3, h6, h7, _⟩ := h5 h0
  rw [e1] at e3
  cases e3
  cases e2
  exact ⟨h6, (Array.getElem?_eq_some_iff.1 h7).1⟩
theorem Qu.below {W W' : World} {base : Nat} {e : TypeId} {v : Value} {L : List Int} (h : Qu W base e v L) (hb : Below W.heap.size W W') : Qu W' base e v L := h.kept fun k hk => hb.block k (h.lt k hk).2
theorem Qu.alloc {W : World} {base : Nat} {e : TypeId} {v : Value} {L : List Int} (h : Qu W base e v L) (o : Obj) : Qu (W.alloc o) base e v L := h.below ((Below.refl _ _).alloc (Nat.le_refl _) o)
theorem Qu.mono {W : World} {base b' : Nat} {e : TypeId} {v : Value} {L : List Int} (h : Qu W base e v L) (hb : b' ≤ base) : Qu W b' e v L := by
  obtain ⟨ao, cap, rfl, h2, h3, h4, h5⟩ := h
  refine ⟨ao, cap, rfl, h2, h3, h4, fun h0 => ?_⟩
  obtain ⟨g, off, cur, rfl, h6, h7⟩ := h5 h0
  exact ⟨g, off, cur, rfl, by omega, h7⟩
theorem Qu.nil (W : World) (base : Nat) (e : TypeId) (ao : Option Addr) : Qu W base e (.slice ao 0 0) [] := ⟨ao, 0, rfl, by simp, by simp, by simp, fun h => by omega⟩
theorem Qu.one (W : World) {base : Nat} (e : TypeId) (x : Int) (h0 : 0 ≤ x) (h1 : x ≤ 18446744073709551615) (hb : base ≤ W.heap.size) : Qu (W.alloc (.cells #[.int .u64 x] e)) base e (.slice (some ⟨W.heap.size, 0, none⟩) 1 1) [x] :=
  ⟨some ⟨W.heap.size, 0, none⟩, 1, rfl, by simp, by simp [maxLen], by simp; omega, fun _ => ⟨W.heap.size, 0, _, rfl, hb, heap_alloc_new W _, rfl, fun j hj => by
    have : j = 0 := by simpa using hj
    subst this; rfl⟩⟩
theorem Qu.tail {W : World} {base : Nat} {e : TypeId} {g off n cap : Nat} {x : Int} {L : List Int} (h : Qu W base e (.slice (some ⟨g, off, none⟩) n cap) (x :: L)) : Qu W base e (.slice (some ⟨g, off + 1, none⟩) (n - 1) (cap - 1)) L := by
  obtain ⟨ao, cap', h1, h2, h3, h4, h5⟩ := h
  cases h1
  rw [List.length_cons] at h2 h5 ⊢
  refine ⟨_, cap - 1, rfl, by omega, by omega, fun y hy => h4 y (List.mem_cons_of_mem _ hy), fun h0 => ?_⟩
  obtain ⟨g', off', cur, e3, h6, h7, h8, h9⟩ := h5 (by omega)
  cases e3
  refine ⟨g, off + 1, cur, rfl, h6, h7, by omega, fun j hj => ?_⟩
  rw [show off + 1 + j = off + (j + 1) by omega, h9 (j + 1) (by omega)]; rfl
theorem Qu.head {W : World} {base : Nat} {e : TypeId} {g off n cap : Nat} {x : Int} {L : List Int} (h : Qu W base e (.slice (some ⟨g, off, none⟩) n cap) (x :: L)) : W.cell? ⟨g, off, none⟩ = some (.int .u64 x) ∧ g < W.heap.size ∧ n = L.length + 1 ∧ L.length + 1 ≤ cap ∧ cap ≤ maxLen ∧ 0 ≤ x ∧ x ≤ 18446744073709551615 := by
  obtain ⟨ao, cap', h1, h2, h3, h4, h5⟩ := h
  cases h1
  rw [List.length_cons] at h2 h5 ⊢
  obtain ⟨g', off', cur, e3, h6, h7, h8, h9⟩ := h5 (by omega)
  cases e3
  refine ⟨?_, (Array.getElem?_eq_some_iff.1 h7).1, rfl, h2, h3, h4 x (by simp)⟩
  rw [cell_of_row W g _ cur e (0, 0) h7]
  exact h9 0 (by omega)
section
variable {P : Program} (w : World)
theorem src_us {t e : TypeId} (ht : P.underlying t = some (.slice e)) {vx : Value} {L : List Int} (hu : Us w vx L) : Src P 1 t vx L.length (u64s L) w := by
  obtain ⟨ao, cap, rfl, q1, q2, q3, q4⟩ := hu
  cases ao with
  | none =>
    have h0 : L.length = 0 := by
      rcases Nat.eq_zero_or_pos L.length with h | h
      · exact h
      · obtain ⟨b, off, e, _⟩ := q4 (by omega); cases e
    have hL : L = [] := List.eq_nil_of_length_eq_zero h0
    subst hL
    exact Src.ofNil w ht cap
  | some ad =>
    refine Src.ofSlice w ht ad L.length cap (u64s L) (by simp) (fun j u hj => ?_) fun u hu => ?_
    · have hjl : j < L.length := by
        have := (List.getElem?_eq_some_iff.1 hj).1
        simpa using this
      obtain ⟨b, off, e, h1, h2⟩ := q4 (by omega)
      cases e
      have := h2 j hjl
      simp [hjl] at hj
      subst hj
      rw [Addr.add_lit, this]; simp [hjl]
    · obtain ⟨_, _, rfl⟩ := List.mem_map.1 hu
      rfl
theorem u64s_at (A : List Int) (j : Nat) (hj : j < A.length) : (u64s A)[j]? = some (.int .u64 (A[j]?.getD 0)) := by
  unfold u64s; rw [List.getElem?_map, List.getElem?_eq_getElem hj]; simp
theorem getD_append_at (A L : List Int) (j : Nat) : (A ++ L)[j]?.getD 0 = if j < A.length then A[j]?.getD 0 else L[j - A.length]?.getD 0 := by
  rw [List.getElem?_append]; split <;> rfl
theorem run_append_qu (base : Nat) (t ty e : TypeId) (i : TypeInfo) (ht : P.underlying t = some (.slice e)) (hi : P.info? e = some i) (hz : i.zero = some (.int .u64 0)) (hsize : i.size = 1) (hby : i.bytes = 8)
    (v : Value) (A : List Int) (hq : Qu w base e v A) (vx : Value) (L : List Int) (hu : Us w vx L) (h63 : A.length + L.length ≤ 1000000) (hbase : base ≤ w.heap.size) :
    ∃ v' w', (Builtin.append_ #[t, t] ty #[v, vx]).run P w = .ok v' w' ∧ Qu w' base e v' (A ++ L) ∧ w.grownBy w' (qblk v) ∧ (∀ k, qblk v' = some k → qblk v = some k ∨ w.heap.size ≤ k) := by
  have hq0 := hq
  have hfx := hu.fits
  have hs : Src P i.size t vx L.length (u64s L) w := by rw [hsize]; exact src_us w ht hu
  obtain ⟨ao, cap, rfl, h2, h3, h4, h5⟩ := hq
  have hfit : ∀ x ∈ A ++ L, 0 ≤ x ∧ x ≤ 18446744073709551615 := fun x hx => by
    rcases List.mem_append.1 hx with hx | hx
    · exact h4 x hx
    · exact hfx x hx
  by_cases hroom : A.length + L.length ≤ cap
  · rcases Nat.eq_zero_or_pos L.length with h0 | h0
    · have hL : L = [] := List.eq_nil_of_length_eq_zero h0
      subst hL
      have hr : (Builtin.append_ #[t, t] ty #[.slice ao A.length cap, vx]).run P w = .ok (.slice ao A.length cap) w := by
        have hle := h2
        have h1 := hs.len
        have h2 := hs.cells
        simp only [List.length_nil] at h1 h2
        cases ao with
        | none => simp [Builtin.append_, run_underlying ht, sizeOf, typeInfo, hi, h1, h2, u64s, hle]
        | some a => simp [Builtin.append_, run_underlying ht, sizeOf, typeInfo, hi, h1, h2, u64s, hle, storeCells]
      refine ⟨_, _, hr, by rw [List.append_nil]; exact hq0, ⟨rfl, rfl, rfl, Nat.le_refl _, fun _ _ _ => rfl⟩, fun k hk => .inl hk⟩
    · obtain ⟨g, off, cur, rfl, h6, h7, h8, h9⟩ := h5 (by omega)
      have hll : (u64s L).length = L.length := by simp
      have hr := run_append_room_src (P := P) w t t ty e i ht hi g off A.length cap vx L.length (u64s L) hs hroom
        (fun j hj => by rw [hsize, cell_of_row w g _ cur e (0, 0) h7, Array.getElem?_eq_getElem (by omega)]; rfl) (fun j _ => frozen_of_row w g _ cur e h7)
      rw [hsize, Nat.mul_one] at hr
      obtain ⟨cur', k1, k2, k3, k4⟩ := cells_row g e (u64s L) (off + A.length) cur w h7 (by omega)
      have hb : qblk (.slice (some ⟨g, off, none⟩) A.length cap) = some g := by rw [qblk_slice, if_neg (by omega)]
      refine ⟨_, _, hr, ⟨_, cap, by rw [List.length_append], by rw [List.length_append]; exact hroom, h3, hfit, fun _ => ⟨g, off, cur', rfl, h6, k1, by omega, fun j hj => ?_⟩⟩, ?_, fun k hk => ?_⟩
      · rw [List.length_append] at hj
        rw [getD_append_at]
        split
        · rename_i hj2
          rw [k4 _ (by omega)]; exact h9 j hj2
        · rename_i hj2
          rw [show off + j = off + A.length + (j - A.length) by omega, k3 _ (by omega), u64s_at L _ (by omega)]
      · rw [hb]; exact grown_cells g _ _ w
      · rw [qblk_slice, if_neg (by omega)] at hk
        cases hk
        exact .inl hb
  · have hold : (Builtin.firstCells i.size A.length (.slice ao A.length cap)).run P w.drew = .ok (u64s A).toArray w.drew := by
      rcases Nat.eq_zero_or_pos A.length with h0 | h0
      · have hA : A = [] := List.eq_nil_of_length_eq_zero h0
        subst hA
        cases ao with
        | none => exact run_firstCells_none (P := P) w.drew _ _ _ _
        | some a => exact run_firstCells_some (P := P) w.drew i.size 0 a 0 cap [] (by simp) fun j u hj => by cases hj
      · obtain ⟨g, off, cur, rfl, h6, h7, h8, h9⟩ := h5 (by omega)
        exact run_firstCells_some (P := P) w.drew i.size A.length ⟨g, off, none⟩ A.length cap (u64s A) (by rw [hsize]; simp) fun j u hj => by
          have hjl : j < A.length := by
            have := (List.getElem?_eq_some_iff.1 hj).1
            simpa using this
          rw [Addr.add_lit]
          show w.cell? _ = _
          rw [cell_of_row w g _ cur e (0, 0) h7, h9 j hjl, ← u64s_at A j hjl]; exact hj
    have hr := run_append_grow_src (P := P) w t t ty e i (.int .u64 0) ht hi hz ao A.length cap (u64s A) hold vx L.length (u64s L) hs (by omega) (by omega) (growslice_fits (by omega) (by rw [hby]; omega))
    have hge := grownCap_ge w (A.length + L.length) cap e
    have hle := grownCap_le_maxLen w (A.length + L.length) cap e (by unfold maxLen; omega)
    generalize hG : grownCap w (A.length + L.length) cap e = G at *
    refine ⟨_, _, hr, ⟨_, G, by rw [List.length_append], by rw [List.length_append]; exact hge, hle, hfit, fun _ => ⟨w.heap.size, 0, _, rfl, hbase, heap_alloc_new w.drew _, ?_, fun j hj => ?_⟩⟩, ⟨rfl, rfl, rfl, by simp, fun k hk _ => (World.grownBy_alloc w.drew _ none).block k hk (by simp)⟩, fun k hk => ?_⟩
    · simp [size_zeroCells, Value.cells]; omega
    · rw [List.length_append] at hj
      rw [Nat.zero_add, Array.getElem?_append_left (by rw [List.size_toArray, List.length_append]; simpa using hj), ← u64s_at _ _ (by rw [List.length_append]; exact hj)]
      unfold u64s
      rw [List.map_append]; simp
    · obtain ⟨_, a, e1, e2⟩ := qblk_some hk
      cases e1
      cases e2
      exact .inr (Nat.le_refl _)
end
section
variable {P : Program} {w : World}
theorem wpList_append_qu {ops : Array Oper} {rest : List Oper} {o : Oper} {a : Act} {Q : Exit → Act → World → Prop} (hgd : Region.wanted o (yielded ops a.tmps) = true) (s x : Operand) (t : TypeId)
    (ho : o.op = .call { callee := .builtin .append, args := #[s, x], argTypes := #[t, t] })
    (base : Nat) (e : TypeId) (i : TypeInfo) (ht : P.underlying t = some (.slice e)) (hi : P.info? e = some i) (hz : i.zero = some (.int .u64 0)) (hsize : i.size = 1) (hby : i.bytes = 8)
    (v : Value) (A : List Int) (hs : a.eval s = v) (hq : Qu w base e v A)
    (vx : Value) (L : List Int) (hx : a.eval x = vx) (hu : Us w vx L) (h63 : A.length + L.length ≤ 1000000) (hbase : base ≤ w.heap.size)
    (h : ∀ v' w', Qu w' base e v' (A ++ L) → w.grownBy w' (qblk v) → (∀ k, qblk v' = some k → qblk v = some k ∨ w.heap.size ≤ k) → wpList P ops Q rest (a.put o.dst v') w') : wpList P ops Q (o :: rest) a w := by
  obtain ⟨v', w', hr, h2, h3, h4⟩ := run_append_qu (P := P) w base t o.type e i ht hi hz hsize hby v A hq vx L hu h63 hbase
  refine wpList_wanted hgd fun _ hK => ?_
  unfold Oper.wp execOp
  simp only [ho, resolve, invoke, builtin, Sem.run_bind, Sem.run_pure, Result.andThen_ok, List.map_toArray, List.map_cons, List.map_nil, hs, hx, hr]
  exact hK _ _ (h v' w' h2 h3 h4)
end
end Go.Proofs.YthmiekinjfaflaaGreat
