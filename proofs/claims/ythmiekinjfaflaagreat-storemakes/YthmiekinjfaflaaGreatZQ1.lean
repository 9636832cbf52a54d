/-
  A slice in memory as a list, of elements of whatever kind whose cells are told ('Elt'); it stays while what lay there stays; its parts; 'append'; an argument that can be read holds a list. Conditions: each theorem's own premises.
-/
import Derived.Test.YthmiekinjfaflaaGreatProg
import Derived.Test.YthmiekinjfaflaaGreatZNT
import Derived.Test.YthmiekinjfaflaaGreatZW1
import Derived.Deep.RegionWith
import Derived.Deep.RegionLaw
import Derived.Deep.AppendSrc
import Derived.Deep.Slices
import Derived.ProofKit
import Derived.OpenShut
import Derived.Deep.Strs
import Derived.Laws.StructEq
import Derived.ChangeKeysEq
import Derived.Stop.RegionWithIn
namespace Go.Proofs.YthmiekinjfaflaaGreat
open Go.ChangeShapes Go.WideShapes Go.ChangeAt Go.RowKit
theorem hidq {p : Prop} (h : p) : Hid p := h
/-- a kind of elements: the slice's type, the element's, its cells -/
structure Elt (P : Program) (α : Type) where
  st : TypeId
  et : TypeId
  enc : α → List Value
  size : Nat
  bytes : Nat
  zero : Value
  ok : α → Prop
  pos : 0 < size
  small : bytes ≤ 1000
  len : ∀ x, (enc x).length = size
  one : ∀ x, ∀ u ∈ enc x, u.oneCell' = true
  ht : P.underlying st = some (.slice et)
  info : (P.info? et).map (fun i => (i.zero, i.size, i.bytes)) = some (some zero, size, bytes)
  zs : zero.cells.size = size
section
variable {P : Program} {α : Type} {E : Elt P α}
def Elt.cells (E : Elt P α) (L : List α) : List Value := L.flatMap E.enc
theorem Elt.cells_length (E : Elt P α) : ∀ L : List α, (E.cells L).length = L.length * E.size
  | [] => by simp [Elt.cells]
  | x :: L => by
    have := E.cells_length L
    unfold Elt.cells at this ⊢
    rw [List.flatMap_cons, List.length_append, this, E.len, List.length_cons, Nat.add_mul, Nat.one_mul, Nat.add_comm]
theorem Elt.cells_append (E : Elt P α) (A L : List α) : E.cells (A ++ L) = E.cells A ++ E.cells L := by unfold Elt.cells; rw [List.flatMap_append]
theorem Elt.cells_one (E : Elt P α) (L : List α) : ∀ u ∈ E.cells L, u.oneCell' = true := by
  intro u hu
  obtain ⟨x, _, hx⟩ := List.mem_flatMap.1 hu
  exact E.one x u hx
theorem Elt.cells_get (E : Elt P α) : ∀ (L : List α) (j i : Nat) (x : α), L[j]? = some x → i < E.size → (E.cells L)[j * E.size + i]? = (E.enc x)[i]?
  | [], j, i, x, h, _ => by simp at h
  | y :: L, 0, i, x, h, hi => by
    simp at h; subst h
    unfold Elt.cells
    rw [List.flatMap_cons, List.getElem?_append_left (by rw [E.len]; omega), Nat.zero_mul, Nat.zero_add]
  | y :: L, j + 1, i, x, h, hi => by
    have := E.cells_get L j i x (by simpa using h) hi
    unfold Elt.cells at this ⊢
    rw [List.flatMap_cons, List.getElem?_append_right (by rw [E.len, Nat.add_mul]; omega), E.len, ← this]
    congr 1
    rw [Nat.add_mul]; omega
theorem Elt.cells_take (E : Elt P α) : ∀ (L : List α) (n : Nat), E.cells (L.take n) = (E.cells L).take (n * E.size)
  | [], n => by simp [Elt.cells]
  | x :: L, 0 => by simp [Elt.cells]
  | x :: L, n + 1 => by
    have := E.cells_take L n
    unfold Elt.cells at this ⊢
    have e1 : List.take (n * E.size + E.size) (E.enc x) = E.enc x := List.take_of_length_le (by rw [E.len]; omega)
    rw [List.take_succ_cons, List.flatMap_cons, List.flatMap_cons, this, List.take_append, E.len, Nat.add_mul, Nat.one_mul, e1, Nat.add_sub_cancel]
theorem Elt.cells_drop (E : Elt P α) : ∀ (L : List α) (n : Nat), E.cells (L.drop n) = (E.cells L).drop (n * E.size)
  | [], n => by simp [Elt.cells]
  | x :: L, 0 => by simp [Elt.cells]
  | x :: L, n + 1 => by
    have := E.cells_drop L n
    unfold Elt.cells at this ⊢
    have e1 : List.drop (n * E.size + E.size) (E.enc x) = [] := List.drop_of_length_le (by rw [E.len]; omega)
    rw [List.drop_succ_cons, List.flatMap_cons, this, List.drop_append, E.len, Nat.add_mul, Nat.one_mul, e1, List.nil_append, Nat.add_sub_cancel]
/-- the slice value v holds the list L -/
def Sl (E : Elt P α) (W : World) (v : Value) (L : List α) : Prop :=
  ∃ ao cap, v = .slice ao L.length cap ∧ L.length ≤ cap ∧ cap ≤ maxLen ∧ (∀ x ∈ L, E.ok x) ∧
    (0 < cap → ∃ b off, ao = some ⟨b, off, none⟩ ∧ b < W.heap.size ∧ ∀ j, j < L.length * E.size → W.cell? ⟨b, off + j, none⟩ = (E.cells L)[j]?)
theorem Sl.below {W W' : World} {v : Value} {L : List α} (h : Sl E W v L) (hb : Below W.heap.size W W') : Sl E W' v L := by
  obtain ⟨ao, cap, h1, h2, h3, h4, h5⟩ := h
  refine ⟨ao, cap, h1, h2, h3, h4, fun h0 => ?_⟩
  obtain ⟨b, off, h6, h7, h8⟩ := h5 h0
  exact ⟨b, off, h6, Nat.lt_of_lt_of_le h7 hb.size, fun j hj => (hb.cell (p := ⟨b, off + j, none⟩) h7).trans (h8 j hj)⟩
theorem Sl.alloc {W : World} {v : Value} {L : List α} (h : Sl E W v L) (o : Obj) : Sl E (W.alloc o) v L := h.below ((Below.refl _ _).alloc (Nat.le_refl _) o)
theorem Sl.drew {W : World} {v : Value} {L : List α} (h : Sl E W v L) : Sl E W.drew v L := h.below (Below.refl _ _).drew
theorem Sl.oks {W : World} {v : Value} {L : List α} (h : Sl E W v L) : ∀ x ∈ L, E.ok x := by
  obtain ⟨_, _, _, _, _, q, _⟩ := h; exact q
theorem Sl.nil (E : Elt P α) (W : World) : Sl E W (.slice none 0 0) [] := ⟨none, 0, rfl, by simp, by simp [maxLen], by simp, fun h => by omega⟩
theorem Sl.empty {W : World} {ao : Option Addr} : Sl E W (.slice ao 0 0) [] := ⟨ao, 0, rfl, by simp, by simp [maxLen], by simp, fun h => by omega⟩
theorem Sl.of_own {W : World} {base : Nat} {e : TypeId} {v : Value} {n : Nat} {L : List α} (h : W.ownsRow base e E.size v n (E.cells L)) (hb : ∀ x ∈ L, E.ok x) : Sl E W v L := by
  have hn : L.length = n := by
    have := h.1
    rw [E.cells_length] at this
    exact Nat.eq_of_mul_eq_mul_right E.pos this
  rcases h.2 with ⟨h1, h2⟩ | ⟨g, cap, cur, h1, h2, h3, h4, h5, h6, h7⟩
  · exact ⟨none, 0, by rw [h1, hn, h2], by omega, by simp [maxLen], hb, fun h0 => by omega⟩
  · refine ⟨some ⟨g, 0, none⟩, cap, by rw [h1, hn], by omega, h5, hb, fun h0 => ⟨g, 0, rfl, (Array.getElem?_eq_some_iff.1 h3).1, fun j hj => ?_⟩⟩
    subst h1
    rw [Nat.zero_add, h.cellAt j (by rw [← hn]; exact hj)]
/-- what lies at place k -/
theorem Sl.at {W : World} {b off n cap : Nat} {L : List α} (h : Sl E W (.slice (some ⟨b, off, none⟩) n cap) L) {k : Nat} {x : α} (hk : L[k]? = some x) {i : Nat} (hi : i < E.size) : W.cell? ⟨b, off + (k * E.size + i), none⟩ = (E.enc x)[i]? := by
  obtain ⟨ao, cap', e, q1, q2, q3, q4⟩ := h
  simp only [Value.slice.injEq] at e
  obtain ⟨rfl, rfl, rfl⟩ := e
  have hkl := (List.getElem?_eq_some_iff.1 hk).1
  obtain ⟨b', off', e, _, q6⟩ := q4 (by omega)
  cases e
  rw [q6 _ (by
    have : (k + 1) * E.size ≤ L.length * E.size := Nat.mul_le_mul_right _ hkl
    rw [Nat.add_mul] at this; omega), E.cells_get L k i x hk hi]
theorem Sl.block {W : World} {b off n cap : Nat} {L : List α} (h : Sl E W (.slice (some ⟨b, off, none⟩) n cap) L) (h0 : 0 < L.length) : b < W.heap.size := by
  obtain ⟨ao, cap', e, q1, q2, q3, q4⟩ := h
  simp only [Value.slice.injEq] at e
  obtain ⟨rfl, rfl, rfl⟩ := e
  obtain ⟨b', off', e, q5, _⟩ := q4 (by omega)
  cases e
  exact q5
theorem Sl.form {W : World} {v : Value} {L : List α} (h : Sl E W v L) : ∃ ao cap, v = .slice ao L.length cap ∧ L.length ≤ cap ∧ cap ≤ maxLen ∧ (0 < cap → ∃ b off, ao = some ⟨b, off, none⟩) := by
  obtain ⟨ao, cap, h1, h2, h3, h4, h5⟩ := h
  exact ⟨ao, cap, h1, h2, h3, fun h0 => by obtain ⟨b, off, h6, _⟩ := h5 h0; exact ⟨b, off, h6⟩⟩
/-- a part of it -/
theorem Sl.part {W : World} {b off cap n : Nat} {L : List α} (h : Sl E W (.slice (some ⟨b, off, none⟩) n cap) L) (lo hi c : Nat) (h1 : lo ≤ hi) (h2 : hi ≤ n) (h3 : hi - lo ≤ c) (h4 : c ≤ cap) (h5 : 0 < cap) : Sl E W (.slice (some ⟨b, off + lo * E.size, none⟩) (hi - lo) c) ((L.drop lo).take (hi - lo)) := by
  obtain ⟨ao, cap', e, q1, q2, q3, q4⟩ := h
  simp only [Value.slice.injEq] at e
  obtain ⟨rfl, rfl, rfl⟩ := e
  obtain ⟨b', off', e, q5, q6⟩ := q4 h5
  cases e
  have hlen : ((L.drop lo).take (hi - lo)).length = hi - lo := by simp; omega
  refine ⟨_, _, by rw [hlen], by omega, by omega, fun x hx => q3 x (List.mem_of_mem_drop (List.mem_of_mem_take hx)), fun _ => ⟨b, off + lo * E.size, rfl, q5, fun j hj => ?_⟩⟩
  rw [hlen] at hj
  have hs : lo * E.size + j < L.length * E.size := by
    have e1 : (hi - lo) * E.size + lo * E.size = hi * E.size := by rw [← Nat.add_mul, Nat.sub_add_cancel h1]
    have e2 : hi * E.size ≤ L.length * E.size := Nat.mul_le_mul_right _ h2
    omega
  rw [Nat.add_assoc, q6 _ hs, E.cells_take, E.cells_drop, List.getElem?_take, if_pos hj, List.getElem?_drop]
theorem wpList_wantedq {w : World} {ops : Array Oper} {rest : List Oper} {o : Oper} {a : Act} {Q : Exit → Act → World → Prop} (hg : Region.wanted o (yielded ops a.tmps) = true)
    (h : ∀ K : Act → World → Prop, (∀ a w, wpList P ops Q rest a w → K a w) → o.wp P a w K Q) : wpList P ops Q (o :: rest) a w :=
  wpList_step fun K hK => by rw [if_pos hg]; exact h K hK
theorem info_partsq {P : Program} {e : TypeId} {z : Value} {s b : Nat} (h : (P.info? e).map (fun i => (i.zero, i.size, i.bytes)) = some (some z, s, b)) : ∃ i, P.info? e = some i ∧ i.zero = some z ∧ i.size = s ∧ i.bytes = b := by
  obtain ⟨i, hi, h1⟩ := Option.map_eq_some_iff.1 h
  simp only [Prod.mk.injEq] at h1
  exact ⟨i, hi, h1.1, h1.2.1, h1.2.2⟩
theorem run_append_nilq (w : World) (base : Nat) (t ty e : TypeId) (i : TypeInfo) (ht : P.underlying t = some (.slice e)) (hi : P.info? e = some i) (size : Nat)
    (v : Value) (n : Nat) (xs : List Value) (hown : w.ownsRow base e size v n xs) (c : Nat) :
    (Builtin.append_ #[t, t] ty #[v, .slice none 0 c]).run P w = .ok v w := by
  rcases hown.2 with ⟨rfl, rfl⟩ | ⟨g, cap, cur, rfl, hbg, hg, hnc, hcm, hcs, htake⟩
  · simp [Builtin.append_, run_underlying ht, sizeOf, typeInfo, hi, Builtin.lenOf, Builtin.firstCells]
  · have := run_append_room_src (P := P) w t t ty e i ht hi g 0 n cap (.slice none 0 c) 0 [] (Src.ofNil w ht c) (by omega) (by simp) (by simp)
    rw [show w.setCells g _ [] = w from rfl] at this
    simpa using this
variable {w : World}
theorem wp_append_sl {o : Oper} {a : Act} {K : Act → World → Prop} {Q : Exit → Act → World → Prop} (s x : Operand)
    (ho : o.op = .call { callee := .builtin .append, args := #[s, x], argTypes := #[E.st, E.st] })
    (base : Nat) (v : Value) (n : Nat) (A : List α) (hs : a.eval s = v) (hown : w.ownsRow base E.et E.size v n (E.cells A))
    (vx : Value) (L : List α) (hx : a.eval x = vx) (hu : Sl E w vx L) (h63 : n + L.length ≤ 1000000) (hbase : base ≤ w.heap.size)
    (h : ∀ v' w', w'.ownsRow base E.et E.size v' (n + L.length) (E.cells (A ++ L)) → w.grownBy w' v.ownBlock → K (a.put o.dst v') w') : o.wp P a w K Q := by
  obtain ⟨i, hi, hz, hsize, hby⟩ := info_partsq E.info
  obtain ⟨ao, cap, rfl, q1, q2, q3, q4⟩ := hu
  cases ao with
  | none =>
    have h0 : L.length = 0 := by
      rcases Nat.eq_zero_or_pos L.length with h | h
      · exact h
      · obtain ⟨b, off, e, _⟩ := q4 (by omega); cases e
    have hL : L = [] := List.eq_nil_of_length_eq_zero h0
    subst hL
    unfold Oper.wp execOp
    simp only [ho, resolve, invoke, builtin, Sem.run_bind, Sem.run_pure, Result.andThen_ok, List.map_toArray, List.map_cons, List.map_nil, hs, hx, List.length_nil, run_append_nilq w base E.st o.type E.et i E.ht hi E.size v n _ hown cap]
    exact h v w (by simpa using hown) ⟨rfl, rfl, rfl, Nat.le_refl _, fun _ _ _ => rfl⟩
  | some ad =>
    refine wp_append_own w s x E.st ho base E.et i E.zero E.size E.bytes E.ht hi hz hsize hby E.zs E.pos v n _ hs hown ad L.length cap (E.cells L) hx (E.cells_length L) ?_ (E.cells_one L) (by unfold maxLen; omega) ?_ hbase ?_
    · intro j u hj
      have hjl : j < L.length * E.size := by
        have := (List.getElem?_eq_some_iff.1 hj).1
        rwa [E.cells_length] at this
      have h0 : 0 < L.length := by
        rcases Nat.eq_zero_or_pos L.length with h | h
        · rw [h] at hjl; omega
        · exact h
      obtain ⟨b, off, e, _, h2⟩ := q4 (by omega)
      cases e
      rw [Addr.add_lit, h2 j hjl]; exact hj
    · have := Nat.mul_le_mul h63 E.small
      omega
    · intro v' w' h1 h2 _
      refine h v' w' ?_ h2
      rw [E.cells_append]; exact h1
theorem wpList_append_sl {ops : Array Oper} {rest : List Oper} {o : Oper} {a : Act} {Q : Exit → Act → World → Prop} (hgd : Region.wanted o (yielded ops a.tmps) = true) (s x : Operand)
    (ho : o.op = .call { callee := .builtin .append, args := #[s, x], argTypes := #[E.st, E.st] })
    (base : Nat) (v : Value) (n : Nat) (A : List α) (hs : a.eval s = v) (hown : w.ownsRow base E.et E.size v n (E.cells A))
    (vx : Value) (L : List α) (hx : a.eval x = vx) (hu : Sl E w vx L) (h63 : n + L.length ≤ 1000000) (hbase : base ≤ w.heap.size)
    (h : ∀ v' w', w'.ownsRow base E.et E.size v' (n + L.length) (E.cells (A ++ L)) → w.grownBy w' v.ownBlock → wpList P ops Q rest (a.put o.dst v') w') : wpList P ops Q (o :: rest) a w :=
  wpList_wantedq hgd fun _ hK => wp_append_sl s x ho base v n A hs hown vx L hx hu h63 hbase fun v' w' h1 h2 => hK _ _ (h v' w' h1 h2)
theorem step_append_sl {ops : Array Oper} {o : Oper} {a : Act} {K : Act → World → Prop} {Q : Exit → Act → World → Prop} {X : Prop} (hgd : Region.wanted o (yielded ops a.tmps) = true) (s x : Operand)
    (ho : o.op = .call { callee := .builtin .append, args := #[s, x], argTypes := #[E.st, E.st] })
    (base : Nat) (v : Value) (n : Nat) (A : List α) (hs : a.eval s = v) (hown : w.ownsRow base E.et E.size v n (E.cells A))
    (vx : Value) (L : List α) (hx : a.eval x = vx) (hu : Sl E w vx L) (h63 : n + L.length ≤ 1000000) (hbase : base ≤ w.heap.size)
    (h : ∀ v' w', w'.ownsRow base E.et E.size v' (n + L.length) (E.cells (A ++ L)) → w.grownBy w' v.ownBlock → K (a.put o.dst v') w') :
    if Region.wanted o (yielded ops a.tmps) = true then Oper.wp P o a w K Q else X := by
  rw [if_pos hgd]
  exact wp_append_sl s x ho base v n A hs hown vx L hx hu h63 hbase h
/-- an argument that can be read holds a list -/
theorem sl_of_trod [Inhabited α] {H : Type} {enc : TypeId × Value → H} {W : World} {v : Value} {d : DataW H} {p : List MemPlace} {base : Nat} (ce : P.cellsOf E.et = E.size)
    (each : ∀ (n : Nat) (cs : List Value) y, cs.length = E.size → DataW.trod enc P W 0 (fun _ => true) true n E.et cs = some y → ∃ x, cs = E.enc x ∧ E.ok x)
    (hok : Value.okWide P W .any base E.st v) (h : DataW.Trod enc P W 0 (fun _ => true) true E.st v d p) (hlt : ∀ x ∈ p, x.block < W.heap.size) : ∃ L, Sl E W v L := by
  obtain ⟨a0, len, cap, rfl⟩ := okWide_slice E.ht hok
  obtain ⟨fuel, hf⟩ := h
  rcases Go.Deep.open_slice E.ht hf with ⟨hcs, hx⟩ | ⟨a, len', cap', m, n, D, Pl, hcs, _, hl, hm, hmm, hx, hcell⟩
  · simp [Value.cells] at hcs
    obtain ⟨rfl, rfl, rfl⟩ := hcs
    exact ⟨[], Sl.nil E W⟩
  · simp [Value.cells] at hcs
    obtain ⟨rfl, rfl, rfl⟩ := hcs
    simp only [Prod.mk.injEq] at hx
    obtain ⟨_, rfl⟩ := hx
    simp only [if_true] at hmm
    subst hmm
    rw [ce] at hcell hlt
    have each2 : ∀ i, i < m → ∃ x, E.ok x ∧ ∀ j, j < E.size → W.cell? ((a.add (i * E.size)).add j) = (E.enc x)[j]? := by
      intro i hi
      obtain ⟨cs', h1, h2⟩ := hcell i hi
      obtain ⟨_, hlen, hc⟩ := World.cells?_some h1
      obtain ⟨x, rfl, hx⟩ := each n cs' _ hlen h2
      exact ⟨x, hx, hc⟩
    obtain ⟨f, hf2⟩ := Go.Deep.choose_lt each2
    refine ⟨(List.range len).map f, some a, m, by simp, by simpa using hl, hm, ?_, fun h0 => ?_⟩
    · intro x hx
      obtain ⟨i, hi, rfl⟩ := List.mem_map.1 hx
      exact (hf2 i (by have := List.mem_range.1 hi; omega)).1
    · obtain ⟨b, off, spot⟩ := a
      have hp := E.pos
      have hc0 := (hf2 0 h0).2 0 hp
      have hspot : spot = none := by
        have e0 : (E.enc (f 0))[0]? = some ((E.enc (f 0))[0]'(by rw [E.len]; exact hp)) := List.getElem?_eq_getElem _
        rw [e0] at hc0
        simpa [Addr.add] using World.cell?_spot hc0
      subst hspot
      have hb := hlt (.cell b off) (List.mem_append_left _ (MemPlace.mem_row.2 ⟨0, Nat.mul_pos h0 hp, by simp⟩))
      refine ⟨b, off, rfl, hb, fun j hj => ?_⟩
      simp only [List.length_map, List.length_range] at hj
      have hd : j / E.size < len := (Nat.div_lt_iff_lt_mul hp).2 hj
      have hr : j % E.size < E.size := Nat.mod_lt _ hp
      have e1 := (hf2 (j / E.size) (by omega)).2 (j % E.size) hr
      rw [Addr.add_lit, Addr.add_lit] at e1
      have ej : j / E.size * E.size + j % E.size = j := by rw [Nat.mul_comm]; exact Nat.div_add_mod j E.size
      rw [Nat.add_assoc, ej] at e1
      rw [e1]
      have := E.cells_get ((List.range len).map f) (j / E.size) (j % E.size) (f (j / E.size)) (by simp [hd]) hr
      rw [ej] at this
      exact this.symm
end
end Go.Proofs.YthmiekinjfaflaaGreat
namespace Go.Proofs.YthmiekinjfaflaaGreat
open Go.ChangeShapes Go.WideShapes Go.ChangeAt Go.RowKit
def M.fitI (x : Int) : Prop := -9223372036854775808 ≤ x ∧ x ≤ 9223372036854775807
def M.fitT (t : M.Tm) : Prop := M.fitI t.1 ∧ M.fitI t.2.1 ∧ M.fitI t.2.2
/-- a term, as the program holds it -/
def tmV (t : M.Tm) : Value := .agg #[.int .i64 t.1, .int .i64 t.2.1, .int .i64 t.2.2]
def elTm : Elt Tryz.prog M.Tm where
  st := 22
  et := 39
  enc := fun t => [.int .i64 t.1, .int .i64 t.2.1, .int .i64 t.2.2]
  size := 3
  bytes := 24
  zero := .agg #[.int .i64 0, .int .i64 0, .int .i64 0]
  ok := M.fitT
  pos := by decide
  small := by decide
  len := fun _ => rfl
  one := by intro x u hu; simp at hu; rcases hu with rfl | rfl | rfl <;> rfl
  ht := Tryz.underlying22
  info := by kernel_rfl
  zs := rfl
def elInt : Elt Tryz.prog Int where
  st := 65
  et := 3
  enc := fun x => [.int .i64 x]
  size := 1
  bytes := 8
  zero := .int .i64 0
  ok := M.fitI
  pos := by decide
  small := by decide
  len := fun _ => rfl
  one := by intro x u hu; simp at hu; subst hu; rfl
  ht := Tryz.underlying65
  info := by kernel_rfl
  zs := rfl
/-- the slice value v holds the terms L -/
abbrev Ts (W : World) (v : Value) (L : List M.Tm) : Prop := Sl elTm W v L
theorem at_get {L : List M.Tm} {k : Nat} (hk : k < L.length) : L[k]? = some (M.at_ L k) := by
  unfold M.at_; rw [List.getElem?_eq_getElem hk]; rfl
theorem Ts.cell {W : World} {b off n cap : Nat} {L : List M.Tm} (h : Ts W (.slice (some ⟨b, off, none⟩) n cap) L) {k : Nat} (hk : k < L.length) :
    W.cell? ⟨b, off + k * 3, none⟩ = some (.int .i64 (M.at_ L k).1) ∧ W.cell? ⟨b, off + k * 3 + 1, none⟩ = some (.int .i64 (M.at_ L k).2.1) ∧ W.cell? ⟨b, off + k * 3 + 2, none⟩ = some (.int .i64 (M.at_ L k).2.2) :=
  ⟨Sl.at h (at_get hk) (i := 0) (by decide), Sl.at h (at_get hk) (i := 1) (by decide), Sl.at h (at_get hk) (i := 2) (by decide)⟩
theorem Ts.fit {W : World} {v : Value} {L : List M.Tm} (h : Ts W v L) {k : Nat} (hk : k < L.length) : M.fitT (M.at_ L k) := h.oks _ (M.at_mem hk)
set_option maxRecDepth 100000 in
theorem Tryz.cellsTerm : Tryz.prog.cellsOf 39 = 3 := by kernel_rfl
set_option maxRecDepth 100000 in
theorem Tryz.cellsInt : Tryz.prog.cellsOf 3 = 1 := by kernel_rfl
set_option maxRecDepth 100000 in
theorem tm_of_cells {H : Type} {enc : TypeId × Value → H} {W : World} (n : Nat) (cs : List Value) (y : DataW H × List MemPlace) (hl : cs.length = 3)
    (h : DataW.trod enc Tryz.prog W 0 (fun _ => true) true n 39 cs = some y) : ∃ x : M.Tm, cs = [.int .i64 x.1, .int .i64 x.2.1, .int .i64 x.2.2] ∧ M.fitT x := by
  match cs, hl with
  | [u, v, x], _ =>
    obtain ⟨y0, y1, y2, m, _, _, h0, h1, h2⟩ := Go.Deep.trod_struct3 Tryz.underlying39 h
    rw [Tryz.cellsInt] at h0 h1 h2
    obtain ⟨a, ha, _, wa⟩ := DataW.trod_int Tryz.underlying3 h0
    obtain ⟨b, hb, _, wb⟩ := DataW.trod_int Tryz.underlying3 h1
    obtain ⟨c, hc, _, wc⟩ := DataW.trod_int Tryz.underlying3 h2
    have e0 : u = .int .i64 a := by simpa [Value.cells] using ha
    have e1 : v = .int .i64 b := by simpa [Value.cells] using hb
    have e2 : x = .int .i64 c := by simpa [Value.cells] using hc
    exact ⟨(a, b, c), by rw [e0, e1, e2], bounds_i64 wa, bounds_i64 wb, bounds_i64 wc⟩
set_option maxRecDepth 100000 in
theorem ts_of_trod {H : Type} {enc : TypeId × Value → H} {W : World} {v : Value} {d : DataW H} {p : List MemPlace} {base : Nat} (hok : Value.okWide Tryz.prog W .any base 22 v)
    (h : DataW.Trod enc Tryz.prog W 0 (fun _ => true) true 22 v d p) (hlt : ∀ x ∈ p, x.block < W.heap.size) : ∃ L, Ts W v L :=
  sl_of_trod (E := elTm) Tryz.cellsTerm (fun n cs y hl hy => tm_of_cells n cs y hl hy) hok h hlt
theorem okWide_structq {P : Program} {w : World} {r : Reach} {base : Nat} {t : TypeId} {v : Value} {fs : Array Field} (ht : P.underlying t = some (.struct fs)) (h : Value.okWide P w r base t v) : ∃ cs, v = .agg cs ∧ cs.size = P.cellsOf t := by
  simp only [Value.okWide, ht] at h
  obtain ⟨cs, h1, h2, _⟩ := h
  exact ⟨cs, h1, h2⟩
set_option maxRecDepth 100000 in
theorem tm_of_trod {H : Type} {enc : TypeId × Value → H} {W : World} {v : Value} {d : DataW H} {p : List MemPlace} {base : Nat} (hok : Value.okWide Tryz.prog W .any base 39 v)
    (h : DataW.Trod enc Tryz.prog W 0 (fun _ => true) true 39 v d p) : ∃ t : M.Tm, v = tmV t ∧ M.fitT t := by
  obtain ⟨cs, rfl, hs⟩ := okWide_structq Tryz.underlying39 hok
  rw [Tryz.cellsTerm] at hs
  obtain ⟨fuel, hf⟩ := h
  obtain ⟨t, e, ht⟩ := tm_of_cells fuel cs.toList _ (by simpa using hs) hf
  refine ⟨t, ?_, ht⟩
  unfold tmV
  rw [← e]
end Go.Proofs.YthmiekinjfaflaaGreat
namespace Go.Proofs.YthmiekinjfaflaaGreat
open Go.RowKit
theorem M.mayB_1 {t : M.Tm} {i : Int} (h : t.1 = 1) : M.mayB t i = ((decide (0 ≤ t.2.1) && decide (t.2.1 ≤ 1048576)) && decide (t.2.2 = 0)) := by unfold M.mayB; rw [if_pos h]
theorem M.mayB_2 {t : M.Tm} {i : Int} (h : t.1 = 2 ∨ t.1 = 3 ∨ t.1 = 4) : M.mayB t i = (M.ahd t.2.1 i && decide (t.2.2 = 0)) := by unfold M.mayB; rw [if_neg (by omega), if_pos h]
theorem M.mayB_5 {t : M.Tm} {i : Int} (h : t.1 = 5) : M.mayB t i = (M.ahd t.2.1 i && M.ahd t.2.2 i) := by unfold M.mayB; rw [if_neg (by omega), if_neg (by omega), if_pos h]
theorem M.mayB_0 {t : M.Tm} {i : Int} (h1 : ¬ t.1 = 1) (h2 : ¬ t.1 = 2) (h3 : ¬ t.1 = 3) (h4 : ¬ t.1 = 4) (h5 : ¬ t.1 = 5) : M.mayB t i = false := by unfold M.mayB; rw [if_neg h1, if_neg (by omega), if_neg h5]
set_option maxRecDepth 100000 in
set_option maxHeartbeats 4000000 in
theorem rmay_any (t : M.Tm) (i : Int) (w : World) :
    Calls Tryz.prog 43 #[tmV t, .int .i64 i] w fun e w' => e = .returned (.bool (M.mayB t i)) ∧ Below w.heap.size w w' := by
  obtain ⟨k, a, b⟩ := t
  unfold tmV
  dsimp only
  by_cases h1 : k = 1
  · rw [M.mayB_1 h1]
    subst h1
    dsimp only
    by_cases c1 : 0 ≤ a <;> by_cases c2 : a ≤ 1048576 <;> by_cases c3 : b = 0 <;> (first | (exfalso; omega) | (go_enter Tryz.func43, Tryz.ntmps43; go_wp2; go_ret; exact ⟨by simp [c1, c2, c3], below_one (Below.refl _ _)⟩))
  · by_cases h2 : k = 2 ∨ k = 3 ∨ k = 4
    · rw [M.mayB_2 h2]
      rcases h2 with rfl | rfl | rfl <;> dsimp only [M.ahd] <;> by_cases c1 : 0 ≤ a <;> by_cases c2 : a < i <;> by_cases c3 : b = 0 <;> (first | (exfalso; omega) | (go_enter Tryz.func43, Tryz.ntmps43; go_wp2; go_ret; exact ⟨by simp [c1, c2, c3], below_one (Below.refl _ _)⟩))
    · by_cases h5 : k = 5
      · rw [M.mayB_5 h5]
        subst h5
        dsimp only [M.ahd]
        by_cases c1 : 0 ≤ a <;> by_cases c2 : a < i <;> by_cases c3 : 0 ≤ b <;> by_cases c4 : b < i <;> (first | (exfalso; omega) | (go_enter Tryz.func43, Tryz.ntmps43; go_wp2; go_ret; exact ⟨by simp [c1, c2, c3, c4], below_one (Below.refl _ _)⟩))
      · obtain ⟨h2, h3, h4⟩ : ¬ k = 2 ∧ ¬ k = 3 ∧ ¬ k = 4 := ⟨fun h => by omega, fun h => by omega, fun h => by omega⟩
        rw [M.mayB_0 h1 h2 h3 h4 h5]
        go_enter Tryz.func43, Tryz.ntmps43
        go_wp2
        go_ret
        exact ⟨rfl, below_one (Below.refl _ _)⟩
end Go.Proofs.YthmiekinjfaflaaGreat
