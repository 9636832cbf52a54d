/-
  Frames: outside a territory of blocks all stays; 'append' to a row of one's own, which stays where it was or lies in new memory; a block with whatever cells. Conditions: each theorem's own premises.
-/
import Derived.Test.YthkkclhjpgkhaaaU12
import Derived.Test.YthkkclhjpgkhaaaU15
namespace Go.Proofs.Ythkkclhjpgkhaaa
open Go.RowKit
/-- outside a territory all stays -/
structure Outs (T : Nat → Prop) (w w' : World) : Prop where
  os : w'.os = w.os
  tape : w'.tape = w.tape
  output : w'.output = w.output
  size : w.heap.size ≤ w'.heap.size
  block : ∀ i, i < w.heap.size → ¬ T i → w'.heap[i]? = w.heap[i]?
theorem Outs.refl (T : Nat → Prop) (w : World) : Outs T w w := ⟨rfl, rfl, rfl, Nat.le_refl _, fun _ _ _ => rfl⟩
theorem Outs.trans {T : Nat → Prop} {a b c : World} (h : Outs T a b) (k : Outs T b c) : Outs T a c :=
  ⟨k.os.trans h.os, k.tape.trans h.tape, k.output.trans h.output, Nat.le_trans h.size k.size, fun i hi ht => (k.block i (Nat.lt_of_lt_of_le hi h.size) ht).trans (h.block i hi ht)⟩
theorem Outs.mono {T T' : Nat → Prop} {w w' : World} (h : Outs T w w') (hT : ∀ i, T i → T' i) : Outs T' w w' := ⟨h.os, h.tape, h.output, h.size, fun i hi ht => h.block i hi fun x => ht (hT i x)⟩
theorem Outs.below {T : Nat → Prop} {w w' : World} (h : Outs T w w') {s : Nat} (hT : ∀ i, T i → s ≤ i) (hs : s ≤ w.heap.size) : Below s w w' :=
  ⟨h.os, h.tape, h.output, h.size, fun i hi => h.block i (by omega) fun x => by have := hT i x; omega⟩
theorem Outs.of_below {T : Nat → Prop} {w w' : World} (h : Below w.heap.size w w') : Outs T w w' := ⟨h.os, h.tape, h.output, h.size, fun i hi _ => h.block i hi⟩
theorem Outs.of_grown {T : Nat → Prop} {w w' : World} {row : Option Nat} (h : w.grownBy w' row) (hr : ∀ k, row = some k → T k) : Outs T w w' :=
  ⟨h.os, h.tape, h.output, h.size, fun i hi ht => h.block i hi fun e => ht (hr i e.symm)⟩
theorem Outs.set {T : Nat → Prop} (w : World) {g k : Nat} (v : Value) (hg : T g) : Outs T w (w.setCell ⟨g, k, none⟩ v) :=
  Outs.of_grown (grownq_set w g k v) fun j e => by cases e; exact hg
theorem Outs.alloc {T : Nat → Prop} (w : World) (o : Obj) : Outs T w (w.alloc o) := Outs.of_grown (World.grownBy_alloc w o none) fun _ e => by cases e
theorem own_outs {T : Nat → Prop} {w w' : World} {base : Nat} {e : TypeId} {size : Nat} {v : Value} {n : Nat} {xs : List Value} (h : w.ownsRow base e size v n xs) (ho : Outs T w w') (hv : ∀ k, v.ownBlock = some k → ¬ T k) : w'.ownsRow base e size v n xs := by
  refine ⟨h.1, ?_⟩
  rcases h.2 with hn | ⟨g, cap, cur, rfl, hb, hgg, rest⟩
  · exact .inl hn
  · refine .inr ⟨g, cap, cur, rfl, hb, ?_, rest⟩
    rw [ho.block g (Array.getElem?_eq_some_iff.1 hgg).1 (hv g rfl)]
    exact hgg
/-- a block with these cells -/
def Bxs (W : World) (B : Nat) (cs : Array Value) (t : TypeId) : Prop := W.heap[B]? = some (.cells cs t (0, 0))
theorem Bxs.lt {W : World} {B : Nat} {cs : Array Value} {t : TypeId} (h : Bxs W B cs t) : B < W.heap.size := (Array.getElem?_eq_some_iff.1 h).1
theorem Bxs.cell {W : World} {B : Nat} {cs : Array Value} {t : TypeId} (h : Bxs W B cs t) (j : Nat) : W.cell? ⟨B, j, none⟩ = cs[j]? := cell_of_row W B j cs t (0, 0) h
theorem Bxs.frozen {W : World} {B : Nat} {cs : Array Value} {t : TypeId} (h : Bxs W B cs t) (j : Nat) : W.frozen? ⟨B, j, none⟩ = false := frozen_of_row W B j cs t h
theorem Bxs.new (W : World) (cs : Array Value) (t : TypeId) : Bxs (W.alloc (.cells cs t)) W.heap.size cs t := heap_alloc_new W _
theorem Bxs.outs {T : Nat → Prop} {W W' : World} {B : Nat} {cs : Array Value} {t : TypeId} (h : Bxs W B cs t) (ho : Outs T W W') (hB : ¬ T B) : Bxs W' B cs t := (ho.block B h.lt hB).trans h
theorem Bxs.below {W W' : World} {B : Nat} {cs : Array Value} {t : TypeId} (h : Bxs W B cs t) (hb : Below W.heap.size W W') : Bxs W' B cs t := (hb.block B h.lt).trans h
theorem Bxs.alloc {W : World} {B : Nat} {cs : Array Value} {t : TypeId} (h : Bxs W B cs t) (o : Obj) : Bxs (W.alloc o) B cs t := h.below ((Below.refl _ _).alloc (Nat.le_refl _) o)
theorem Bxs.grown {W W' : World} {B : Nat} {row : Option Nat} {cs : Array Value} {t : TypeId} (h : Bxs W B cs t) (hg : W.grownBy W' row) (hne : some B ≠ row) : Bxs W' B cs t := (hg.block B h.lt hne).trans h
theorem Bxs.set {W : World} {B : Nat} {cs : Array Value} {t : TypeId} (h : Bxs W B cs t) (j : Nat) (v : Value) : Bxs (W.setCell ⟨B, j, none⟩ v) B (cs.setIfInBounds j v) t := heap_setCell_same W B j cs t v h
theorem Bxs.other {W : World} {B : Nat} {cs : Array Value} {t : TypeId} (h : Bxs W B cs t) {g : Nat} (hne : B ≠ g) (j : Nat) (v : Value) : Bxs (W.setCell ⟨g, j, none⟩ v) B cs t := (heap_setCell_other W ⟨g, j, none⟩ B v hne).trans h
/-- a block of another type is no row's -/
theorem Bxs.apart {W : World} {B : Nat} {cs : Array Value} {t : TypeId} (h : Bxs W B cs t) {base : Nat} {e : TypeId} {size : Nat} {v : Value} {n : Nat} {xs : List Value} (ho : W.ownsRow base e size v n xs) (hne : t ≠ e) : v.ownBlock ≠ some B := by
  intro he
  rcases ho.2 with ⟨rfl, _⟩ | ⟨g, cap, cur, rfl, _, hg, _⟩
  · cases he
  · cases he
    have h' : W.heap[g]? = _ := h
    rw [h'] at hg
    simp only [Option.some.injEq, Obj.cells.injEq] at hg
    exact hne hg.2.1
theorem own_apartq {W : World} {b b' : Nat} {e e' : TypeId} {z z' : Nat} {v v' : Value} {n n' : Nat} {xs xs' : List Value} (h : W.ownsRow b e z v n xs) (h' : W.ownsRow b' e' z' v' n' xs') (hne : e ≠ e') {k : Nat} (hk : v.ownBlock = some k) : v'.ownBlock ≠ some k := by
  rcases h.2 with ⟨rfl, _⟩ | ⟨g, cap, cur, rfl, _, hg, _⟩
  · cases hk
  · cases hk
    exact Bxs.apart (show Bxs W g cur e from hg) h' hne
section
variable {P : Program} {α : Type} {E : Elt P α} {w : World}
/-- 'append' to a row of one's own: it stays where it was, or lies in new memory -/
theorem wp_append_fr {o : Oper} {a : Act} {K : Act → World → Prop} {Q : Exit → Act → World → Prop} (s x : Operand)
    (ho : o.op = .call { callee := .builtin .append, args := #[s, x], argTypes := #[E.st, E.st] })
    (base : Nat) (v : Value) (n : Nat) (A : List α) (hs : a.eval s = v) (hown : w.ownsRow base E.et E.size v n (E.cells A))
    (vx : Value) (L : List α) (hx : a.eval x = vx) (hu : Sl E w vx L) (h63 : n + L.length ≤ 1000000) (hbase : base ≤ w.heap.size)
    (h : ∀ v' w', w'.ownsRow base E.et E.size v' (n + L.length) (E.cells (A ++ L)) → w.grownBy w' v.ownBlock → (∀ k, v'.ownBlock = some k → v.ownBlock = some k ∨ w.heap.size ≤ k) → K (a.put o.dst v') w') : o.wp P a w K Q := by
  obtain ⟨i, hi, hz, hsize, hby⟩ := info_partsq E.info
  obtain ⟨ao, cap, rfl, q1, q2, q3, q4⟩ := hu
  cases ao with
  | none =>
    have h0 : L.length = 0 := by
      rcases Nat.eq_zero_or_pos L.length with h | h
      · exact h
      · obtain ⟨b, off, e, _⟩ := q4 (by omega); cases e
    have hL : L = [] := List.eq_nil_of_length_eq_zero h0
    subst hL
    unfold Oper.wp execOp
    simp only [ho, resolve, invoke, builtin, Sem.run_bind, Sem.run_pure, Result.andThen_ok, List.map_toArray, List.map_cons, List.map_nil, hs, hx, List.length_nil, run_append_nilq w base E.st o.type E.et i E.ht hi E.size v n _ hown cap]
    exact h v w (by simpa using hown) ⟨rfl, rfl, rfl, Nat.le_refl _, fun _ _ _ => rfl⟩ fun _ => .inl
  | some ad =>
    have hnews : ∀ j u, (E.cells L)[j]? = some u → w.cell? (ad.add j) = some u := by
      intro j u hj
      have hjl : j < L.length * E.size := by
        have := (List.getElem?_eq_some_iff.1 hj).1
        rwa [E.cells_length] at this
      have h0 : 0 < L.length := by
        rcases Nat.eq_zero_or_pos L.length with h | h
        · rw [h] at hjl; omega
        · exact h
      obtain ⟨b, off, e, _, h2⟩ := q4 (by omega)
      cases e
      rw [Addr.add_lit, h2 j hjl]; exact hj
    have hm : n + L.length ≤ maxLen := by unfold maxLen; omega
    have hbytes : (n + L.length) * E.bytes ≤ 140737488355328 := by
      have := Nat.mul_le_mul h63 E.small
      omega
    have hl := E.cells_length L
    have h1 := E.cells_one L
    have key : ∃ v' w', (Builtin.append_ #[E.st, E.st] o.type #[v, .slice (some ad) L.length cap]).run P w = .ok v' w' ∧ w'.ownsRow base E.et E.size v' (n + L.length) (E.cells A ++ E.cells L) ∧ w.grownBy w' v.ownBlock ∧ (∀ k, v'.ownBlock = some k → v.ownBlock = some k ∨ w.heap.size ≤ k) := by
      obtain ⟨v', w', hr, h2, h3, _⟩ := run_append_own (P := P) w base E.st o.type E.et i E.zero E.size E.bytes E.ht hi hz hsize hby E.zs E.pos v n _ hown ad L.length cap (E.cells L) hl hnews h1 hm hbytes hbase
      refine ⟨v', w', hr, h2, h3, fun k hk => ?_⟩
      rcases hown.2 with ⟨rfl, rfl⟩ | ⟨g, cap', cur, rfl, hbg, hg, hnc, hcm, hcs, htake⟩
      · obtain ⟨v2, w2, hr2, k2, _, _⟩ := run_append_own (P := P) w w.heap.size E.st o.type E.et i E.zero E.size E.bytes E.ht hi hz hsize hby E.zs E.pos _ 0 _ ⟨hown.1, .inl ⟨rfl, rfl⟩⟩ ad L.length cap (E.cells L) hl hnews h1 hm hbytes (Nat.le_refl _)
        rw [hr] at hr2
        cases hr2
        exact .inr (k2.lt k hk).1
      · by_cases hroom : n + L.length ≤ cap'
        · have hr2 := run_append_room (P := P) w E.st o.type E.et i E.ht hi g n cap' cur hg ad L.length cap (E.cells L) (by rw [hsize]; exact hl) hnews h1 hroom (by rw [hl, hcs, hsize, ← Nat.add_mul]; exact Nat.mul_le_mul_right _ hroom)
          rw [hr] at hr2
          cases hr2
          exact .inl hk
        · have hr2 := run_append_grow (P := P) w E.st o.type E.et i E.zero E.ht hi hz ⟨g, 0, none⟩ n cap' _ (by rw [hsize]; exact hown.1) (hown.cells (g := g) rfl) ad L.length cap (E.cells L) (by rw [hsize]; exact hl) hnews (by omega) (by omega) (growslice_fits (by omega) (by rw [hby]; exact hbytes))
          rw [hr] at hr2
          cases hr2
          cases hk
          exact .inr (Nat.le_refl _)
    obtain ⟨v', w', hr, h2, h3, h4⟩ := key
    unfold Oper.wp execOp
    simp only [ho, resolve, invoke, builtin, Sem.run_bind, Sem.run_pure, Result.andThen_ok, List.map_toArray, List.map_cons, List.map_nil, hs, hx, hr]
    exact h v' w' (by rw [E.cells_append]; exact h2) h3 h4
theorem wpList_append_fr {ops : Array Oper} {rest : List Oper} {o : Oper} {a : Act} {Q : Exit → Act → World → Prop} (hgd : Region.wanted o (yielded ops a.tmps) = true) (s x : Operand)
    (ho : o.op = .call { callee := .builtin .append, args := #[s, x], argTypes := #[E.st, E.st] })
    (base : Nat) (v : Value) (n : Nat) (A : List α) (hs : a.eval s = v) (hown : w.ownsRow base E.et E.size v n (E.cells A))
    (vx : Value) (L : List α) (hx : a.eval x = vx) (hu : Sl E w vx L) (h63 : n + L.length ≤ 1000000) (hbase : base ≤ w.heap.size)
    (h : ∀ v' w', w'.ownsRow base E.et E.size v' (n + L.length) (E.cells (A ++ L)) → w.grownBy w' v.ownBlock → (∀ k, v'.ownBlock = some k → v.ownBlock = some k ∨ w.heap.size ≤ k) → wpList P ops Q rest (a.put o.dst v') w') : wpList P ops Q (o :: rest) a w :=
  wpList_wantedq hgd fun _ hK => wp_append_fr s x ho base v n A hs hown vx L hx hu h63 hbase fun v' w' h1 h2 h3 => hK _ _ (h v' w' h1 h2 h3)
theorem step_append_fr {ops : Array Oper} {o : Oper} {a : Act} {K : Act → World → Prop} {Q : Exit → Act → World → Prop} {X : Prop} (hgd : Region.wanted o (yielded ops a.tmps) = true) (s x : Operand)
    (ho : o.op = .call { callee := .builtin .append, args := #[s, x], argTypes := #[E.st, E.st] })
    (base : Nat) (v : Value) (n : Nat) (A : List α) (hs : a.eval s = v) (hown : w.ownsRow base E.et E.size v n (E.cells A))
    (vx : Value) (L : List α) (hx : a.eval x = vx) (hu : Sl E w vx L) (h63 : n + L.length ≤ 1000000) (hbase : base ≤ w.heap.size)
    (h : ∀ v' w', w'.ownsRow base E.et E.size v' (n + L.length) (E.cells (A ++ L)) → w.grownBy w' v.ownBlock → (∀ k, v'.ownBlock = some k → v.ownBlock = some k ∨ w.heap.size ≤ k) → K (a.put o.dst v') w') :
    if Region.wanted o (yielded ops a.tmps) = true then Oper.wp P o a w K Q else X := by
  rw [if_pos hgd]
  exact wp_append_fr s x ho base v n A hs hown vx L hx hu h63 hbase h
end
end Go.Proofs.Ythkkclhjpgkhaaa
