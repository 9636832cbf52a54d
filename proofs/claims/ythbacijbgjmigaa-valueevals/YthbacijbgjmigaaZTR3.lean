/-
  A block that can be read as an argument is two numbers; a slice of octets that can be read holds a list. No condition.
-/
import Derived.Test.YthbacijbgjmigaaZB14
import Derived.ProofKit
import Derived.OpenShut
namespace Go.Proofs.Ythbacijbgjmigaa
open Go.ChangeShapes Go.WideShapes Go.ChangeAt Go.RowKit
set_option maxRecDepth 100000 in
theorem Try.cellsBlk : Try.prog.cellsOf 27 = 2 := by kernel_rfl
set_option maxRecDepth 100000 in
theorem Try.cellsU8 : Try.prog.cellsOf 5 = 1 := by kernel_rfl
set_option maxRecDepth 100000 in
theorem okWide_array {P : Program} {w : World} {r : Reach} {base : Nat} {t : TypeId} {v : Value} {n : Nat} {e : TypeId} (ht : P.underlying t = some (.array n e)) (h : Value.okWide P w r base t v) : ∃ cs, v = .agg cs ∧ cs.size = P.cellsOf t := by
  simp only [Value.okWide, ht] at h
  obtain ⟨cs, h1, h2, _⟩ := h
  exact ⟨cs, h1, h2⟩
set_option maxRecDepth 100000 in
theorem two_of_size {cs : Array Value} (h : cs.size = 2) : ∃ u v, cs = #[u, v] := by
  obtain ⟨l⟩ := cs
  match l, h with
  | [u, v], _ => exact ⟨u, v, rfl⟩
set_option maxRecDepth 100000 in
theorem blk_of_trod {H : Type} {enc : TypeId × Value → H} {W : World} {v : Value} {d : DataW H} {p : List MemPlace} {base : Nat} (hok : Value.okWide Try.prog W .any base 27 v)
    (h : DataW.Trod enc Try.prog W 0 (fun _ => true) true 27 v d p) : ∃ b : M.Blk, v = blkV b := by
  obtain ⟨cs, rfl, hs⟩ := okWide_array Try.underlying27 hok
  rw [Try.cellsBlk] at hs
  obtain ⟨u, v, rfl⟩ := two_of_size hs
  obtain ⟨fuel, hf⟩ := h
  obtain ⟨xs, m, _, _, _, hl, hg⟩ := DataW.trod_array Try.underlying27 hf
  have h0 := hg 0 (by decide)
  have h1 := hg 1 (by decide)
  rw [Try.cellsU64b] at h0 h1
  have e0 : xs[0]? = some xs[0] := List.getElem?_eq_getElem (by omega)
  have e1 : xs[1]? = some xs[1] := List.getElem?_eq_getElem (by omega)
  rw [e0] at h0
  rw [e1] at h1
  obtain ⟨x, hx, _, hw⟩ := DataW.trod_int Try.underlying25 h0
  obtain ⟨y, hy, _, hw2⟩ := DataW.trod_int Try.underlying25 h1
  obtain ⟨b0, b1⟩ := bounds_u64 hw
  obtain ⟨b2, b3⟩ := bounds_u64 hw2
  have eu : u = .int .u64 x := by simpa [Value.cells] using hx
  have ev : v = .int .u64 y := by simpa [Value.cells] using hy
  refine ⟨(BitVec.ofInt 64 x, BitVec.ofInt 64 y), ?_⟩
  unfold blkV
  rw [M.nu_of x b0 b1, M.nu_of y b2 b3, eu, ev]
set_option maxRecDepth 100000 in
theorem bs_of_trod {H : Type} {enc : TypeId × Value → H} {W : World} {v : Value} {d : DataW H} {p : List MemPlace} {base : Nat} (hok : Value.okWide Try.prog W .any base 82 v)
    (h : DataW.Trod enc Try.prog W 0 (fun _ => true) true 82 v d p) (hlt : ∀ x ∈ p, x.block < W.heap.size) : ∃ L, Bs W v L := by
  obtain ⟨a0, len, cap, rfl⟩ := okWide_slice Try.underlying82 hok
  obtain ⟨fuel, hf⟩ := h
  rcases open_ints Try.underlying82 Try.underlying5 Try.cellsU8 hf with ⟨hcs, hx⟩ | ⟨a, len', cap', zs, hcs, _, hl, hm, hz, hx, hcell, hwz⟩
  · simp [Value.cells] at hcs
    obtain ⟨rfl, rfl, rfl⟩ := hcs
    exact ⟨[], Bs.nil W⟩
  · simp [Value.cells] at hcs
    obtain ⟨rfl, rfl, rfl⟩ := hcs
    simp only [Prod.mk.injEq] at hx
    obtain ⟨_, rfl⟩ := hx
    simp only [if_true] at hz
    have htl : (zs.take len).length = len := by rw [List.length_take]; omega
    refine ⟨zs.take len, some a, cap, by rw [htl], by omega, hm, fun x hx => bounds_u8 (hwz x (List.mem_of_mem_take hx)), fun h0 => ?_⟩
    obtain ⟨b, off, spot⟩ := a
    have hc0 := hcell 0 (by omega)
    have hspot : spot = none := by simpa [Addr.add] using World.cell?_spot hc0
    subst hspot
    have hb := hlt (.cell b off) (MemPlace.mem_row.2 ⟨0, by omega, by simp⟩)
    refine ⟨b, off, rfl, hb, fun j hj => ?_⟩
    rw [htl] at hj
    have := hcell j (by omega)
    rw [Addr.add_lit] at this
    rw [this, List.getElem?_take, if_pos hj]
    rfl
end Go.Proofs.Ythbacijbgjmigaa
