/-
  The chapter's example; a class of worlds in which boxes stay; what is wrapped, read as an argument. No condition.
-/
import Derived.Test.YthbacijbgjmigaaZC5
import Derived.Test.YthbacijbgjmigaaZTR3
namespace Go.Proofs.Ythbacijbgjmigaa
open Go.RowKit
set_option maxRecDepth 100000 in
theorem wrap_live {x : M.Sea} (h : M.wrap (1#64, 2#64) (3#64, 4#64) = x) (w : World) :
    Calls Try.prog 42 #[.agg #[.int .u64 1, .int .u64 2], .agg #[.int .u64 3, .int .u64 4]] w fun e w' => e = .returned (.agg #[.int .u64 (M.nu x.1.1), .int .u64 (M.nu x.1.2), .int .u64 (M.nu x.2.1), .int .u64 (M.nu x.2.2)]) ∧ Below w.heap.size w w' := wrap_eq h w
set_option maxRecDepth 100000 in
theorem unwrap_live {s : M.Sea} (h : ¬ M.tag (1#64, 2#64) s.1 = s.2) (w : World) :
    Calls Try.prog 27 #[.agg #[.int .u64 1, .int .u64 2], (.agg #[.int .u64 (M.nu s.1.1), .int .u64 (M.nu s.1.2), .int .u64 (M.nu s.2.1), .int .u64 (M.nu s.2.2)])] w fun e w' => e = .returned (.tuple #[.agg #[.int .u64 0, .int .u64 0], .int .i64 7]) ∧ Below w.heap.size w w' := unwrap_no (1#64, 2#64) s h w
set_option maxRecDepth 100000 in
theorem class_of4 (w W : World) (bs : List (Nat × M.Blk)) (ss : List (Nat × M.Sea)) (h : ∀ p ∈ bs, Bx2 W p.1 p.2) (h4 : ∀ p ∈ ss, Bx4 W p.1 p.2) (hB : Below w.heap.size w W) : ∃ G : World → Prop, Hid (∀ X X', G X → Below X.heap.size X X' → G X') ∧ (∀ s : Cls G, ∀ p ∈ bs, Bx2 s.W p.1 p.2) ∧ (∀ s : Cls G, ∀ p ∈ ss, Bx4 s.W p.1 p.2) ∧ Hid (∀ s : Cls G, Below w.heap.size w s.W) ∧ Hid (G { W with drawn := W.drawn + 1 }) :=
  ⟨fun X => (∀ p ∈ bs, Bx2 X p.1 p.2) ∧ (∀ p ∈ ss, Bx4 X p.1 p.2) ∧ Below w.heap.size w X, fun _ _ h hb => ⟨fun p hp => (h.1 p hp).below hb, fun p hp => (h.2.1 p hp).below hb, below_trans h.2.2 hb⟩, fun s => s.ok.1, fun s => s.ok.2.1, fun s => s.ok.2.2, ⟨h, h4, below_d1 hB⟩⟩
set_option maxRecDepth 100000 in
theorem Cls.next {G : World → Prop} (hG : ∀ X X', G X → Below X.heap.size X X' → G X') (s : Cls G) : G { s.W with drawn := s.W.drawn + 1 } := hG _ _ s.ok (below_d1 (Below.refl _ _))
end Go.Proofs.Ythbacijbgjmigaa
namespace Go.Proofs.Ythbacijbgjmigaa
open Go.ChangeShapes Go.WideShapes Go.ChangeAt Go.RowKit
set_option maxRecDepth 100000 in
theorem Try.cellsSea : Try.prog.cellsOf 29 = 4 := by kernel_rfl
set_option maxRecDepth 100000 in
theorem okWide_struct {P : Program} {w : World} {r : Reach} {base : Nat} {t : TypeId} {v : Value} {fs : Array Field} (ht : P.underlying t = some (.struct fs)) (h : Value.okWide P w r base t v) : ∃ cs, v = .agg cs ∧ cs.size = P.cellsOf t := by
  simp only [Value.okWide, ht] at h
  obtain ⟨cs, h1, h2, _⟩ := h
  exact ⟨cs, h1, h2⟩
set_option maxRecDepth 100000 in
theorem four_of_size {cs : Array Value} (h : cs.size = 4) : ∃ u v x y, cs = #[u, v, x, y] := by
  obtain ⟨l⟩ := cs
  match l, h with
  | [u, v, x, y], _ => exact ⟨u, v, x, y, rfl⟩
set_option maxRecDepth 100000 in
theorem blk_of_cells {H : Type} {enc : TypeId × Value → H} {W : World} {u v : Value} {fuel : Nat} {d : DataW H × List MemPlace}
    (h : DataW.trod enc Try.prog W 0 (fun _ => true) true fuel 27 [u, v] = some d) : ∃ b : M.Blk, u = .int .u64 (M.nu b.1) ∧ v = .int .u64 (M.nu b.2) := by
  obtain ⟨xs, m, _, _, _, hl, hg⟩ := DataW.trod_array Try.underlying27 h
  have h0 := hg 0 (by decide)
  have h1 := hg 1 (by decide)
  rw [Try.cellsU64b] at h0 h1
  have e0 : xs[0]? = some xs[0] := List.getElem?_eq_getElem (by omega)
  have e1 : xs[1]? = some xs[1] := List.getElem?_eq_getElem (by omega)
  rw [e0] at h0
  rw [e1] at h1
  obtain ⟨x, hx, _, hw⟩ := DataW.trod_int Try.underlying25 h0
  obtain ⟨y, hy, _, hw2⟩ := DataW.trod_int Try.underlying25 h1
  obtain ⟨b0, b1⟩ := bounds_u64 hw
  obtain ⟨b2, b3⟩ := bounds_u64 hw2
  have eu : u = .int .u64 x := by simpa [Value.cells] using hx
  have ev : v = .int .u64 y := by simpa [Value.cells] using hy
  refine ⟨(BitVec.ofInt 64 x, BitVec.ofInt 64 y), ?_, ?_⟩
  · rw [M.nu_of x b0 b1, eu]
  · rw [M.nu_of y b2 b3, ev]
set_option maxRecDepth 100000 in
theorem sea_of_trod {H : Type} {enc : TypeId × Value → H} {W : World} {v : Value} {d : DataW H} {p : List MemPlace} {base : Nat} (hok : Value.okWide Try.prog W .any base 29 v)
    (h : DataW.Trod enc Try.prog W 0 (fun _ => true) true 29 v d p) : ∃ s : M.Sea, v = seaV s := by
  obtain ⟨cs, rfl, hs⟩ := okWide_struct Try.underlying29 hok
  rw [Try.cellsSea] at hs
  obtain ⟨a, b, x, y, rfl⟩ := four_of_size hs
  obtain ⟨fuel, hf⟩ := h
  obtain ⟨y0, y1, n, _, _, h0, h1⟩ := trod_struct2 Try.underlying29 hf
  rw [Try.cellsBlk] at h0 h1
  obtain ⟨c, e1, e2⟩ := blk_of_cells h0
  obtain ⟨t, e3, e4⟩ := blk_of_cells h1
  refine ⟨(c, t), ?_⟩
  unfold seaV
  rw [e1, e2, e3, e4]
end Go.Proofs.Ythbacijbgjmigaa
