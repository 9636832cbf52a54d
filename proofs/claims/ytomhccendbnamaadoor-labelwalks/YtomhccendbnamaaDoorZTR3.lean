/-
  A block that can be read as an argument is two numbers; a slice of octets that can be read holds a list. No condition.
-/
import Derived.Test.YtomhccendbnamaaDoorZB14
import Derived.Test.YtomhccendbnamaaDoorZC5
import Derived.ProofKit
import Derived.OpenShut
namespace Go.Proofs.YtomhccendbnamaaDoor
open Go.ChangeShapes Go.WideShapes Go.ChangeAt Go.RowKit
set_option maxRecDepth 100000 in
theorem Tryd.cellsBlk : Tryd.prog.cellsOf 25 = 2 := by kernel_rfl
set_option maxRecDepth 100000 in
theorem Tryd.cellsU8 : Tryd.prog.cellsOf 5 = 1 := by kernel_rfl
set_option maxRecDepth 100000 in
theorem okWide_array {P : Program} {w : World} {r : Reach} {base : Nat} {t : TypeId} {v : Value} {n : Nat} {e : TypeId} (ht : P.underlying t = some (.array n e)) (h : Value.okWide P w r base t v) : ∃ cs, v = .agg cs ∧ cs.size = P.cellsOf t := by
  simp only [Value.okWide, ht] at h
  obtain ⟨cs, h1, h2, _⟩ := h
  exact ⟨cs, h1, h2⟩
set_option maxRecDepth 100000 in
theorem two_of_size {cs : Array Value} (h : cs.size = 2) : ∃ u v, cs = #[u, v] := by
  obtain ⟨l⟩ := cs
  match l, h with
  | [u, v], _ => exact ⟨u, v, rfl⟩
set_option maxRecDepth 100000 in
theorem blk_of_trod {H : Type} {enc : TypeId × Value → H} {W : World} {v : Value} {d : DataW H} {p : List MemPlace} {base : Nat} (hok : Value.okWide Tryd.prog W .any base 25 v)
    (h : DataW.Trod enc Tryd.prog W 0 (fun _ => true) true 25 v d p) : ∃ b : M.Blk, v = blkV b := by
  obtain ⟨cs, rfl, hs⟩ := okWide_array Tryd.underlying25 hok
  rw [Tryd.cellsBlk] at hs
  obtain ⟨u, v, rfl⟩ := two_of_size hs
  obtain ⟨fuel, hf⟩ := h
  obtain ⟨xs, m, _, _, _, hl, hg⟩ := DataW.trod_array Tryd.underlying25 hf
  have h0 := hg 0 (by decide)
  have h1 := hg 1 (by decide)
  rw [Tryd.cellsU64b] at h0 h1
  have e0 : xs[0]? = some xs[0] := List.getElem?_eq_getElem (by omega)
  have e1 : xs[1]? = some xs[1] := List.getElem?_eq_getElem (by omega)
  rw [e0] at h0
  rw [e1] at h1
  obtain ⟨x, hx, _, hw⟩ := DataW.trod_int Tryd.underlying23 h0
  obtain ⟨y, hy, _, hw2⟩ := DataW.trod_int Tryd.underlying23 h1
  obtain ⟨b0, b1⟩ := bounds_u64 hw
  obtain ⟨b2, b3⟩ := bounds_u64 hw2
  have eu : u = .int .u64 x := by simpa [Value.cells] using hx
  have ev : v = .int .u64 y := by simpa [Value.cells] using hy
  refine ⟨(BitVec.ofInt 64 x, BitVec.ofInt 64 y), ?_⟩
  unfold blkV
  rw [M.nu_of x b0 b1, M.nu_of y b2 b3, eu, ev]
set_option maxRecDepth 100000 in
theorem bs_of_trod {H : Type} {enc : TypeId × Value → H} {W : World} {v : Value} {d : DataW H} {p : List MemPlace} {base : Nat} (hok : Value.okWide Tryd.prog W .any base 74 v)
    (h : DataW.Trod enc Tryd.prog W 0 (fun _ => true) true 74 v d p) (hlt : ∀ x ∈ p, x.block < W.heap.size) : ∃ L, Bs W v L := by
  obtain ⟨a0, len, cap, rfl⟩ := okWide_slice Tryd.underlying74 hok
  obtain ⟨fuel, hf⟩ := h
  rcases open_ints Tryd.underlying74 Tryd.underlying5 Tryd.cellsU8 hf with ⟨hcs, hx⟩ | ⟨a, len', cap', zs, hcs, _, hl, hm, hz, hx, hcell, hwz⟩
  · simp [Value.cells] at hcs
    obtain ⟨rfl, rfl, rfl⟩ := hcs
    exact ⟨[], Bs.nil W⟩
  · simp [Value.cells] at hcs
    obtain ⟨rfl, rfl, rfl⟩ := hcs
    simp only [Prod.mk.injEq] at hx
    obtain ⟨_, rfl⟩ := hx
    simp only [if_true] at hz
    have htl : (zs.take len).length = len := by rw [List.length_take]; omega
    refine ⟨zs.take len, some a, cap, by rw [htl], by omega, hm, fun x hx => bounds_u8 (hwz x (List.mem_of_mem_take hx)), fun h0 => ?_⟩
    obtain ⟨b, off, spot⟩ := a
    have hc0 := hcell 0 (by omega)
    have hspot : spot = none := by simpa [Addr.add] using World.cell?_spot hc0
    subst hspot
    have hb := hlt (.cell b off) (MemPlace.mem_row.2 ⟨0, by omega, by simp⟩)
    refine ⟨b, off, rfl, hb, fun j hj => ?_⟩
    rw [htl] at hj
    have := hcell j (by omega)
    rw [Addr.add_lit] at this
    rw [this, List.getElem?_take, if_pos hj]
    rfl
end Go.Proofs.YtomhccendbnamaaDoor
namespace Go.Proofs.YtomhccendbnamaaDoor
open Go.RowKit
set_option maxRecDepth 100000 in
theorem wrap_live {x : M.Sea} (h : M.wrap (1#64, 2#64) (3#64, 4#64) = x) (w : World) :
    Calls Tryd.prog 65 #[.agg #[.int .u64 1, .int .u64 2], .agg #[.int .u64 3, .int .u64 4]] w fun e w' => e = .returned (.agg #[.int .u64 (M.nu x.1.1), .int .u64 (M.nu x.1.2), .int .u64 (M.nu x.2.1), .int .u64 (M.nu x.2.2)]) ∧ Below w.heap.size w w' := wrap_eq h w
set_option maxRecDepth 100000 in
theorem class_of4 (w W : World) (bs : List (Nat × M.Blk)) (ss : List (Nat × M.Sea)) (h : ∀ p ∈ bs, Bx2 W p.1 p.2) (h4 : ∀ p ∈ ss, Bx4 W p.1 p.2) (hB : Below w.heap.size w W) : ∃ G : World → Prop, Hid (∀ X X', G X → Below X.heap.size X X' → G X') ∧ (∀ s : Cls G, ∀ p ∈ bs, Bx2 s.W p.1 p.2) ∧ (∀ s : Cls G, ∀ p ∈ ss, Bx4 s.W p.1 p.2) ∧ Hid (∀ s : Cls G, Below w.heap.size w s.W) ∧ Hid (G { W with drawn := W.drawn + 1 }) :=
  ⟨fun X => (∀ p ∈ bs, Bx2 X p.1 p.2) ∧ (∀ p ∈ ss, Bx4 X p.1 p.2) ∧ Below w.heap.size w X, fun _ _ h hb => ⟨fun p hp => (h.1 p hp).below hb, fun p hp => (h.2.1 p hp).below hb, below_trans h.2.2 hb⟩, fun s => s.ok.1, fun s => s.ok.2.1, fun s => s.ok.2.2, ⟨h, h4, below_d1 hB⟩⟩
set_option maxRecDepth 100000 in
theorem Cls.next {G : World → Prop} (hG : ∀ X X', G X → Below X.heap.size X X' → G X') (s : Cls G) : G { s.W with drawn := s.W.drawn + 1 } := hG _ _ s.ok (below_d1 (Below.refl _ _))
end Go.Proofs.YtomhccendbnamaaDoor
namespace Go.Proofs.YtomhccendbnamaaDoor
open Go.ChangeShapes Go.WideShapes Go.ChangeAt Go.RowKit
set_option maxRecDepth 100000 in
theorem Tryd.cellsSea : Tryd.prog.cellsOf 27 = 4 := by kernel_rfl
set_option maxRecDepth 100000 in
theorem okWide_struct {P : Program} {w : World} {r : Reach} {base : Nat} {t : TypeId} {v : Value} {fs : Array Field} (ht : P.underlying t = some (.struct fs)) (h : Value.okWide P w r base t v) : ∃ cs, v = .agg cs ∧ cs.size = P.cellsOf t := by
  simp only [Value.okWide, ht] at h
  obtain ⟨cs, h1, h2, _⟩ := h
  exact ⟨cs, h1, h2⟩
set_option maxRecDepth 100000 in
theorem four_of_size {cs : Array Value} (h : cs.size = 4) : ∃ u v x y, cs = #[u, v, x, y] := by
  obtain ⟨l⟩ := cs
  match l, h with
  | [u, v, x, y], _ => exact ⟨u, v, x, y, rfl⟩
set_option maxRecDepth 100000 in
theorem blk_of_cells {H : Type} {enc : TypeId × Value → H} {W : World} {u v : Value} {fuel : Nat} {d : DataW H × List MemPlace}
    (h : DataW.trod enc Tryd.prog W 0 (fun _ => true) true fuel 25 [u, v] = some d) : ∃ b : M.Blk, u = .int .u64 (M.nu b.1) ∧ v = .int .u64 (M.nu b.2) := by
  obtain ⟨xs, m, _, _, _, hl, hg⟩ := DataW.trod_array Tryd.underlying25 h
  have h0 := hg 0 (by decide)
  have h1 := hg 1 (by decide)
  rw [Tryd.cellsU64b] at h0 h1
  have e0 : xs[0]? = some xs[0] := List.getElem?_eq_getElem (by omega)
  have e1 : xs[1]? = some xs[1] := List.getElem?_eq_getElem (by omega)
  rw [e0] at h0
  rw [e1] at h1
  obtain ⟨x, hx, _, hw⟩ := DataW.trod_int Tryd.underlying23 h0
  obtain ⟨y, hy, _, hw2⟩ := DataW.trod_int Tryd.underlying23 h1
  obtain ⟨b0, b1⟩ := bounds_u64 hw
  obtain ⟨b2, b3⟩ := bounds_u64 hw2
  have eu : u = .int .u64 x := by simpa [Value.cells] using hx
  have ev : v = .int .u64 y := by simpa [Value.cells] using hy
  refine ⟨(BitVec.ofInt 64 x, BitVec.ofInt 64 y), ?_, ?_⟩
  · rw [M.nu_of x b0 b1, eu]
  · rw [M.nu_of y b2 b3, ev]
set_option maxRecDepth 100000 in
theorem sea_of_trod {H : Type} {enc : TypeId × Value → H} {W : World} {v : Value} {d : DataW H} {p : List MemPlace} {base : Nat} (hok : Value.okWide Tryd.prog W .any base 27 v)
    (h : DataW.Trod enc Tryd.prog W 0 (fun _ => true) true 27 v d p) : ∃ s : M.Sea, v = seaV s := by
  obtain ⟨cs, rfl, hs⟩ := okWide_struct Tryd.underlying27 hok
  rw [Tryd.cellsSea] at hs
  obtain ⟨a, b, x, y, rfl⟩ := four_of_size hs
  obtain ⟨fuel, hf⟩ := h
  obtain ⟨y0, y1, n, _, _, h0, h1⟩ := trod_struct2 Tryd.underlying27 hf
  rw [Tryd.cellsBlk] at h0 h1
  obtain ⟨c, e1, e2⟩ := blk_of_cells h0
  obtain ⟨t, e3, e4⟩ := blk_of_cells h1
  refine ⟨(c, t), ?_⟩
  unfold seaV
  rw [e1, e2, e3, e4]
end Go.Proofs.YtomhccendbnamaaDoor
