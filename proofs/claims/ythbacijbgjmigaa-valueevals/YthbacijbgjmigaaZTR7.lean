/-
  An argument that can be read holds a value, blocks, places. Conditions: each theorem's own premises.
-/
import Derived.Test.YthbacijbgjmigaaZE1
import Derived.ProofKit
import Derived.OpenShut
namespace Go.Proofs.Ythbacijbgjmigaa
open Go.ChangeShapes Go.WideShapes Go.ChangeAt Go.RowKit
def elBlk : Elt Try.prog M.Blk where
  st := 23
  et := 27
  enc := fun b => [.int .u64 (M.nu b.1), .int .u64 (M.nu b.2)]
  size := 2
  bytes := 16
  zero := .agg #[.int .u64 0, .int .u64 0]
  ok := fun _ => True
  pos := by decide
  small := by decide
  len := fun _ => rfl
  one := by intro x u hu; simp at hu; rcases hu with rfl | rfl <;> rfl
  ht := Try.underlying23
  info := by kernel_rfl
  zs := rfl
/-- the slice value v holds the blocks L -/
abbrev Bks (W : World) (v : Value) (L : List M.Blk) : Prop := Sl elBlk W v L
theorem Bks.cell {W : World} {b off n cap : Nat} {L : List M.Blk} (h : Bks W (.slice (some ⟨b, off, none⟩) n cap) L) {k : Nat} {x : M.Blk} (hk : L[k]? = some x) :
    W.cell? ⟨b, off + k * 2, none⟩ = some (.int .u64 (M.nu x.1)) ∧ W.cell? ⟨b, off + k * 2 + 1, none⟩ = some (.int .u64 (M.nu x.2)) :=
  ⟨Sl.at h hk (i := 0) (by decide), Sl.at h hk (i := 1) (by decide)⟩
set_option maxRecDepth 100000 in
theorem bks_of_trod {H : Type} {enc : TypeId × Value → H} {W : World} {v : Value} {d : DataW H} {p : List MemPlace} {base : Nat} (hok : Value.okWide Try.prog W .any base 23 v)
    (h : DataW.Trod enc Try.prog W 0 (fun _ => true) true 23 v d p) (hlt : ∀ x ∈ p, x.block < W.heap.size) : ∃ L, Bks W v L :=
  sl_of_trod (E := elBlk) Try.cellsBlk (fun n cs y hl hy => by
    match cs, hl with
    | [u, v], _ =>
      obtain ⟨b, e1, e2⟩ := blk_of_cells hy
      exact ⟨b, by rw [e1, e2]; rfl, trivial⟩) hok h hlt
set_option maxRecDepth 100000 in
theorem isq_of_trod {H : Type} {enc : TypeId × Value → H} {W : World} {v : Value} {d : DataW H} {p : List MemPlace} {base : Nat} (hok : Value.okWide Try.prog W .any base 40 v)
    (h : DataW.Trod enc Try.prog W 0 (fun _ => true) true 40 v d p) (hlt : ∀ x ∈ p, x.block < W.heap.size) : ∃ L, Is W v L :=
  sl_of_trod (E := elInt) Try.cellsInt (fun n cs y hl hy => by
    match cs, hl with
    | [u], _ =>
      obtain ⟨a, ha, _, wa⟩ := DataW.trod_int Try.underlying3 hy
      have e0 : u = .int .i64 a := by simpa [Value.cells] using ha
      exact ⟨a, by rw [e0]; rfl, bounds_i64 wa⟩) hok h hlt
theorem nine_of_size {cs : Array Value} (h : cs.size = 9) : ∃ a b c d e f g i j, cs = #[a, b, c, d, e, f, g, i, j] := by
  obtain ⟨l⟩ := cs
  match l, h with
  | [a, b, c, d, e, f, g, i, j], _ => exact ⟨a, b, c, d, e, f, g, i, j, rfl⟩
theorem trod_struct5 {P : Program} {H : Type} {enc : TypeId × Value → H} {w : World} {base : Nat} {spare : Nat → Bool} {held : Bool} {t : TypeId} {f0 f1 f2 f3 f4 : Field} {fuel : Nat} {cs : List Value} {x : DataW H × List MemPlace} (ht : P.underlying t = some (.struct #[f0, f1, f2, f3, f4])) (h : DataW.trod enc P w base spare held fuel t cs = some x) :
    ∃ y0 y1 y2 y3 y4 n, DataW.trod enc P w base spare held n f0.type ((cs.drop f0.offset).take (P.cellsOf f0.type)) = some y0 ∧ DataW.trod enc P w base spare held n f1.type ((cs.drop f1.offset).take (P.cellsOf f1.type)) = some y1 ∧ DataW.trod enc P w base spare held n f2.type ((cs.drop f2.offset).take (P.cellsOf f2.type)) = some y2 ∧ DataW.trod enc P w base spare held n f3.type ((cs.drop f3.offset).take (P.cellsOf f3.type)) = some y3 ∧ DataW.trod enc P w base spare held n f4.type ((cs.drop f4.offset).take (P.cellsOf f4.type)) = some y4 := by
  obtain ⟨xs, n, _, _, hl, hlen, hf⟩ := DataW.trod_struct ht h
  match xs, hlen with
  | [y0, y1, y2, y3, y4], _ => exact ⟨y0, y1, y2, y3, y4, n, by simpa using hf 0 f0 rfl, by simpa using hf 1 f1 rfl, by simpa using hf 2 f2 rfl, by simpa using hf 3 f3 rfl, by simpa using hf 4 f4 rfl⟩
theorem Try.cellsVal : Try.prog.cellsOf 31 = 9 := by kernel_rfl
theorem Try.cellsBool : Try.prog.cellsOf 4 = 1 := by kernel_rfl
set_option maxRecDepth 100000 in
theorem val_of_trod {H : Type} {enc : TypeId × Value → H} {W : World} {v : Value} {d : DataW H} {p : List MemPlace} {base : Nat} (hok : Value.okWide Try.prog W .any base 31 v)
    (h : DataW.Trod enc Try.prog W 0 (fun _ => true) true 31 v d p) : ∃ x : M.Val, v = valV x ∧ M.fitI x.2.2.2.2 := by
  obtain ⟨cs, rfl, hs⟩ := okWide_struct Try.underlying31 hok
  rw [Try.cellsVal] at hs
  obtain ⟨a, b, c, d, e, f, g, i, j, rfl⟩ := nine_of_size hs
  obtain ⟨fuel, hf⟩ := h
  have hst : Try.prog.underlying 31 = some (.struct #[⟨"Sym", 4, 0, false, "", "", 0⟩, ⟨"Sealed", 4, 1, false, "", "", 1⟩, ⟨"B", 27, 2, false, "", "", 8⟩, ⟨"S", 29, 4, false, "", "", 24⟩, ⟨"T", 3, 8, false, "", "", 56⟩]) := by rw [← Try.fieldsV]; exact Try.structV
  obtain ⟨y0, y1, y2, y3, y4, n, h0, h1, h2, h3, h4⟩ := trod_struct5 hst hf
  dsimp only at h0 h1 h2 h3 h4
  rw [Try.cellsBool] at h0 h1
  rw [Try.cellsBlk] at h2
  rw [Try.cellsSea] at h3
  rw [Try.cellsInt] at h4
  obtain ⟨s, hs, _⟩ := DataW.trod_bool Try.underlying4 h0
  obtain ⟨l, hl, _⟩ := DataW.trod_bool Try.underlying4 h1
  obtain ⟨bb, e1, e2⟩ := blk_of_cells h2
  obtain ⟨z0, z1, m, _, _, k0, k1⟩ := trod_struct2 Try.underlying29 h3
  rw [Try.cellsBlk] at k0 k1
  obtain ⟨q1, e3, e4⟩ := blk_of_cells k0
  obtain ⟨q2, e5, e6⟩ := blk_of_cells k1
  obtain ⟨t, ht, _, wt⟩ := DataW.trod_int Try.underlying3 h4
  have ea : a = .bool s := by simpa [Value.cells] using hs
  have eb : b = .bool l := by simpa [Value.cells] using hl
  have ej : j = .int .i64 t := by simpa [Value.cells] using ht
  refine ⟨(s, l, bb, (q1, q2), t), ?_, bounds_i64 wt⟩
  unfold valV
  rw [ea, eb, e1, e2, e3, e4, e5, e6, ej]
end Go.Proofs.Ythbacijbgjmigaa
