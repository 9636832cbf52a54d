/-
  Terms, whole numbers and truth values as elements of slices; '==' of terms; an argument that can be read holds terms. Conditions: each theorem's own premises.
-/
import Derived.Test.YthbacijbgjmigaaZNT
import Derived.Test.YthbacijbgjmigaaZQ1
import Derived.Deep.Strs
import Derived.Laws.StructEq
import Derived.ChangeKeysEq
namespace Go.Proofs.Ythbacijbgjmigaa
open Go.ChangeShapes Go.WideShapes Go.ChangeAt Go.RowKit
def M.fitI (x : Int) : Prop := -9223372036854775808 ≤ x ∧ x ≤ 9223372036854775807
def M.fitT (t : M.Tm) : Prop := M.fitI t.1 ∧ M.fitI t.2.1 ∧ M.fitI t.2.2
/-- a term, as the program holds it -/
def tmV (t : M.Tm) : Value := .agg #[.int .i64 t.1, .int .i64 t.2.1, .int .i64 t.2.2]
def elTm : Elt Try.prog M.Tm where
  st := 22
  et := 45
  enc := fun t => [.int .i64 t.1, .int .i64 t.2.1, .int .i64 t.2.2]
  size := 3
  bytes := 24
  zero := .agg #[.int .i64 0, .int .i64 0, .int .i64 0]
  ok := M.fitT
  pos := by decide
  small := by decide
  len := fun _ => rfl
  one := by intro x u hu; simp at hu; rcases hu with rfl | rfl | rfl <;> rfl
  ht := Try.underlying22
  info := by kernel_rfl
  zs := rfl
def elInt : Elt Try.prog Int where
  st := 40
  et := 3
  enc := fun x => [.int .i64 x]
  size := 1
  bytes := 8
  zero := .int .i64 0
  ok := M.fitI
  pos := by decide
  small := by decide
  len := fun _ => rfl
  one := by intro x u hu; simp at hu; subst hu; rfl
  ht := Try.underlying40
  info := by kernel_rfl
  zs := rfl
def elBool : Elt Try.prog Bool where
  st := 65
  et := 4
  enc := fun x => [.bool x]
  size := 1
  bytes := 1
  zero := .bool false
  ok := fun _ => True
  pos := by decide
  small := by decide
  len := fun _ => rfl
  one := by intro x u hu; simp at hu; subst hu; rfl
  ht := Try.underlying65
  info := by kernel_rfl
  zs := rfl
/-- the slice value v holds the terms L -/
abbrev Ts (W : World) (v : Value) (L : List M.Tm) : Prop := Sl elTm W v L
theorem at_get {L : List M.Tm} {k : Nat} (hk : k < L.length) : L[k]? = some (M.at_ L k) := by
  unfold M.at_; rw [List.getElem?_eq_getElem hk]; rfl
theorem Ts.cell {W : World} {b off n cap : Nat} {L : List M.Tm} (h : Ts W (.slice (some ⟨b, off, none⟩) n cap) L) {k : Nat} (hk : k < L.length) :
    W.cell? ⟨b, off + k * 3, none⟩ = some (.int .i64 (M.at_ L k).1) ∧ W.cell? ⟨b, off + k * 3 + 1, none⟩ = some (.int .i64 (M.at_ L k).2.1) ∧ W.cell? ⟨b, off + k * 3 + 2, none⟩ = some (.int .i64 (M.at_ L k).2.2) :=
  ⟨Sl.at h (at_get hk) (i := 0) (by decide), Sl.at h (at_get hk) (i := 1) (by decide), Sl.at h (at_get hk) (i := 2) (by decide)⟩
theorem Ts.fit {W : World} {v : Value} {L : List M.Tm} (h : Ts W v L) {k : Nat} (hk : k < L.length) : M.fitT (M.at_ L k) := h.oks _ (M.at_mem hk)
theorem Try.cellsTerm : Try.prog.cellsOf 45 = 3 := by kernel_rfl
theorem Try.cellsInt : Try.prog.cellsOf 3 = 1 := by kernel_rfl
theorem tm_of_cells {H : Type} {enc : TypeId × Value → H} {W : World} (n : Nat) (cs : List Value) (y : DataW H × List MemPlace) (hl : cs.length = 3)
    (h : DataW.trod enc Try.prog W 0 (fun _ => true) true n 45 cs = some y) : ∃ x : M.Tm, cs = [.int .i64 x.1, .int .i64 x.2.1, .int .i64 x.2.2] ∧ M.fitT x := by
  match cs, hl with
  | [u, v, x], _ =>
    obtain ⟨y0, y1, y2, m, _, _, h0, h1, h2⟩ := Go.Deep.trod_struct3 Try.underlying45 h
    rw [Try.cellsInt] at h0 h1 h2
    obtain ⟨a, ha, _, wa⟩ := DataW.trod_int Try.underlying3 h0
    obtain ⟨b, hb, _, wb⟩ := DataW.trod_int Try.underlying3 h1
    obtain ⟨c, hc, _, wc⟩ := DataW.trod_int Try.underlying3 h2
    have e0 : u = .int .i64 a := by simpa [Value.cells] using ha
    have e1 : v = .int .i64 b := by simpa [Value.cells] using hb
    have e2 : x = .int .i64 c := by simpa [Value.cells] using hc
    exact ⟨(a, b, c), by rw [e0, e1, e2], bounds_i64 wa, bounds_i64 wb, bounds_i64 wc⟩
set_option maxRecDepth 100000 in
theorem ts_of_trod {H : Type} {enc : TypeId × Value → H} {W : World} {v : Value} {d : DataW H} {p : List MemPlace} {base : Nat} (hok : Value.okWide Try.prog W .any base 22 v)
    (h : DataW.Trod enc Try.prog W 0 (fun _ => true) true 22 v d p) (hlt : ∀ x ∈ p, x.block < W.heap.size) : ∃ L, Ts W v L :=
  sl_of_trod (E := elTm) Try.cellsTerm (fun n cs y hl hy => tm_of_cells n cs y hl hy) hok h hlt
theorem okWide_structq {P : Program} {w : World} {r : Reach} {base : Nat} {t : TypeId} {v : Value} {fs : Array Field} (ht : P.underlying t = some (.struct fs)) (h : Value.okWide P w r base t v) : ∃ cs, v = .agg cs ∧ cs.size = P.cellsOf t := by
  simp only [Value.okWide, ht] at h
  obtain ⟨cs, h1, h2, _⟩ := h
  exact ⟨cs, h1, h2⟩
set_option maxRecDepth 100000 in
theorem tm_of_trod {H : Type} {enc : TypeId × Value → H} {W : World} {v : Value} {d : DataW H} {p : List MemPlace} {base : Nat} (hok : Value.okWide Try.prog W .any base 45 v)
    (h : DataW.Trod enc Try.prog W 0 (fun _ => true) true 45 v d p) : ∃ t : M.Tm, v = tmV t ∧ M.fitT t := by
  obtain ⟨cs, rfl, hs⟩ := okWide_structq Try.underlying45 hok
  rw [Try.cellsTerm] at hs
  obtain ⟨fuel, hf⟩ := h
  obtain ⟨t, e, ht⟩ := tm_of_cells fuel cs.toList _ (by simpa using hs) hf
  refine ⟨t, ?_, ht⟩
  unfold tmV
  rw [← e]
end Go.Proofs.Ythbacijbgjmigaa
