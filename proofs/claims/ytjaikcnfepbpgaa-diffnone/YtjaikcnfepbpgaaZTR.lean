/-
  A slice argument that can be read holds a list (of numbers, of spans). No condition.
-/
import Derived.Test.YtjaikcnfepbpgaaZH1
import Derived.ProofKit
import Derived.OpenShut
import Derived.Deep.SlicePairs
namespace Go.Proofs.Ytjaikcnfepbpgaa
open Go.ChangeShapes Go.WideShapes Go.ChangeAt Go.RowKit
set_option maxRecDepth 100000 in
theorem Try.cellsU64 : Try.prog.cellsOf 28 = 1 := by kernel_rfl
set_option maxRecDepth 100000 in
theorem us_of_trod {H : Type} {enc : TypeId × Value → H} {W : World} {v : Value} {d : DataW H} {p : List MemPlace} {base : Nat} (hok : Value.okWide Try.prog W .any base 22 v)
    (h : DataW.Trod enc Try.prog W 0 (fun _ => true) true 22 v d p) (hlt : ∀ x ∈ p, x.block < W.heap.size) : ∃ L, Us W v L := by
  obtain ⟨a0, len, cap, rfl⟩ := okWide_slice Try.underlying22 hok
  obtain ⟨fuel, hf⟩ := h
  rcases open_ints Try.underlying22 Try.underlying28 Try.cellsU64 hf with ⟨hcs, hx⟩ | ⟨a, len', cap', zs, hcs, _, hl, hm, hz, hx, hcell, hwz⟩
  · simp [Value.cells] at hcs
    obtain ⟨rfl, rfl, rfl⟩ := hcs
    exact ⟨[], Us.nil W⟩
  · simp [Value.cells] at hcs
    obtain ⟨rfl, rfl, rfl⟩ := hcs
    simp only [Prod.mk.injEq] at hx
    obtain ⟨_, rfl⟩ := hx
    simp only [if_true] at hz
    have htl : (zs.take len).length = len := by rw [List.length_take]; omega
    refine ⟨zs.take len, some a, cap, by rw [htl], by omega, hm, fun x hx => bounds_u64 (hwz x (List.mem_of_mem_take hx)), fun h0 => ?_⟩
    obtain ⟨b, off, spot⟩ := a
    have hc0 := hcell 0 (by omega)
    have hspot : spot = none := by simpa [Addr.add] using World.cell?_spot hc0
    subst hspot
    have hb := hlt (.cell b off) (MemPlace.mem_row.2 ⟨0, by omega, by simp⟩)
    refine ⟨b, off, rfl, hb, fun j hj => ?_⟩
    rw [htl] at hj
    have := hcell j (by omega)
    rw [Addr.add_lit] at this
    rw [this, List.getElem?_take, if_pos hj]
    rfl
set_option maxRecDepth 100000 in
theorem Try.cellsSpan : Try.prog.cellsOf 50 = 2 := by kernel_rfl
set_option maxRecDepth 100000 in
theorem ps_of_trod {H : Type} {enc : TypeId × Value → H} {W : World} {v : Value} {d : DataW H} {p : List MemPlace} {base : Nat} (hok : Value.okWide Try.prog W .any base 40 v)
    (h : DataW.Trod enc Try.prog W 0 (fun _ => true) true 40 v d p) (hlt : ∀ x ∈ p, x.block < W.heap.size) : ∃ S, Ps W v S := by
  obtain ⟨a0, len, cap, rfl⟩ := okWide_slice Try.underlying40 hok
  obtain ⟨fuel, hf⟩ := h
  rcases Go.Deep.open_slice_pairs Try.underlying40 Try.underlying50 Try.cellsSpan rfl rfl Try.cellsU64 Try.cellsU64 hf with ⟨hcs, hx⟩ | ⟨a, len', cap', m, n, V0, V1, D0, D1, P0, P1, hcs, _, hl, hm, hmm, hx, hcell⟩
  · simp [Value.cells] at hcs
    obtain ⟨rfl, rfl, rfl⟩ := hcs
    exact ⟨[], none, 0, rfl, by simp, by simp [maxLen], by simp, fun h => by omega⟩
  · simp [Value.cells] at hcs
    obtain ⟨rfl, rfl, rfl⟩ := hcs
    simp only [Prod.mk.injEq] at hx
    obtain ⟨_, rfl⟩ := hx
    simp only [if_true] at hmm
    subst hmm
    have each : ∀ i, i < m → ∃ x y : Int, V0 i = .int .u64 x ∧ V1 i = .int .u64 y ∧ (0 ≤ x ∧ x ≤ 18446744073709551615) ∧ (0 ≤ y ∧ y ≤ 18446744073709551615) := by
      intro i hi
      obtain ⟨_, _, h1, h2⟩ := hcell i hi
      obtain ⟨x, hx, _, hw⟩ := DataW.trod_int Try.underlying28 h1
      obtain ⟨y, hy, _, hw2⟩ := DataW.trod_int Try.underlying28 h2
      exact ⟨x, y, by simpa using hx, by simpa using hy, bounds_u64 hw, bounds_u64 hw2⟩
    have num : ∀ v : Value, ∀ x : Int, v = .int .u64 x → intOf v = x := fun v x e => by subst e; rfl
    refine ⟨(List.range len).map fun i => (intOf (V0 i), intOf (V1 i)), some a, m, by simp, by simpa using hl, hm, ?_, fun h0 => ?_⟩
    · intro x hx
      obtain ⟨i, hi, rfl⟩ := List.mem_map.1 hx
      have hi' := List.mem_range.1 hi
      obtain ⟨x, y, e1, e2, b1, b2⟩ := each i (by omega)
      rw [num _ _ e1, num _ _ e2]
      exact ⟨b1.1, b1.2, b2.1, b2.2⟩
    · obtain ⟨b, off, spot⟩ := a
      have hc0 := (hcell 0 (by omega)).1
      have hspot : spot = none := by simpa [Addr.add] using World.cell?_spot hc0
      subst hspot
      have hb := hlt (.cell b off) (List.mem_append_left _ (MemPlace.mem_row.2 ⟨0, by omega, by simp⟩))
      refine ⟨b, off, rfl, hb, fun j hj => ?_⟩
      simp only [List.length_map, List.length_range] at hj
      obtain ⟨c1, c2, _, _⟩ := hcell j (by omega)
      obtain ⟨x, y, e1, e2, _, _⟩ := each j (by omega)
      rw [Addr.add_lit] at c1 c2
      rw [c1, ← Nat.add_assoc] at *
      simp only [List.getElem?_map, List.getElem?_range hj, Option.map_some, Option.getD_some]
      rw [c2, e1, e2]
      exact ⟨rfl, rfl⟩
end Go.Proofs.Ytjaikcnfepbpgaa
