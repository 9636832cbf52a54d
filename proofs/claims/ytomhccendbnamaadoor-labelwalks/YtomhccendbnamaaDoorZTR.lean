/-
  A slice argument that can be read holds a list (of numbers, of spans). No condition.
-/
import Derived.Test.YtomhccendbnamaaDoorZA7
import Derived.Test.YtomhccendbnamaaDoorZH1
import Derived.Test.YtomhccendbnamaaDoorZQ3
import Derived.ProofKit
import Derived.OpenShut
import Derived.Deep.SlicePairs
import Derived.Deep.Strs
import Derived.Deep.DeepCutAuto
import Derived.Laws.StructEq
import Derived.ChangeKeysEq
namespace Go.Proofs.YtomhccendbnamaaDoor
open Go.ChangeShapes Go.WideShapes Go.ChangeAt Go.RowKit
set_option maxRecDepth 100000 in
theorem Tryd.cellsU64 : Tryd.prog.cellsOf 23 = 1 := by kernel_rfl
end Go.Proofs.YtomhccendbnamaaDoor
namespace Go.Proofs.YtomhccendbnamaaDoor
open Go.ChangeShapes Go.WideShapes Go.ChangeAt Go.RowKit
set_option maxRecDepth 100000 in
theorem Tryd.fieldsSub : (Tryd.prog.fieldsOf 41) = #[⟨"I", 23, 0, false, "", "", 0⟩, ⟨"J", 23, 1, false, "", "", 8⟩] := by kernel_rfl
set_option maxRecDepth 100000 in
theorem Tryd.heldSub : Tryd.prog.stoodInHeld 41 = false := by kernel_rfl
set_option maxRecDepth 100000 in
theorem Tryd.structSub : Tryd.prog.underlying 41 = some (.struct (Tryd.prog.fieldsOf 41)) := by kernel_rfl
set_option maxRecDepth 100000 in
/-- '==' of two subsets -/
theorem eqSub (a b x y : Int) (w : World) : (Op.equalIn 10000 41 (.agg #[.int .u64 a, .int .u64 b]) (.agg #[.int .u64 x, .int .u64 y])).run Tryd.prog w = .ok (decide (((a, b) : Int × Int) = (x, y))) w := by
  rw [run_equalIn_struct w 9999 _ _ _ Tryd.structSub Tryd.heldSub, Tryd.fieldsSub]
  simp [Op.eqFields, part, go_sem]
  by_cases h1 : a = x <;> by_cases h2 : b = y <;> simp [h1, h2]
theorem M.live8 : M.subB 4 2 16 = true := by decide +kernel
theorem M.live8s : M.spl 4 2 16 = [(2, 4), (4, 16)] := by decide +kernel
set_option maxRecDepth 100000 in
theorem Tryd.cellsSub : Tryd.prog.cellsOf 41 = 2 := by kernel_rfl
theorem okWide_struct8 {P : Program} {w : World} {r : Reach} {base : Nat} {t : TypeId} {v : Value} {fs : Array Field} (ht : P.underlying t = some (.struct fs)) (h : Value.okWide P w r base t v) : ∃ cs, v = .agg cs ∧ cs.size = P.cellsOf t := by
  simp only [Value.okWide, ht] at h
  obtain ⟨cs, h1, h2, _⟩ := h
  exact ⟨cs, h1, h2⟩
theorem trod_two {H : Type} {enc : TypeId × Value → H} {P : Program} {W : World} {base : Nat} {spare : Nat → Bool} {held : Bool} {t : TypeId} {f0 f1 : Field} {fuel : Nat} {cs : List Value} {x : DataW H × List MemPlace} (ht : P.underlying t = some (.struct #[f0, f1])) (h : DataW.trod enc P W base spare held fuel t cs = some x) :
    ∃ y0 y1 n, DataW.trod enc P W base spare held n f0.type ((cs.drop f0.offset).take (P.cellsOf f0.type)) = some y0 ∧ DataW.trod enc P W base spare held n f1.type ((cs.drop f1.offset).take (P.cellsOf f1.type)) = some y1 := by
  obtain ⟨xs, n, _, rfl, _, hlen, hf⟩ := DataW.trod_struct ht h
  match xs, hlen with
  | [y0, y1], _ => exact ⟨y0, y1, n, by simpa using hf 0 f0 rfl, by simpa using hf 1 f1 rfl⟩
def M.fitS (x : Int × Int) : Prop := (0 ≤ x.1 ∧ x.1 ≤ 18446744073709551615) ∧ 0 ≤ x.2 ∧ x.2 ≤ 18446744073709551615
def subV (x : Int × Int) : Value := .agg #[.int .u64 x.1, .int .u64 x.2]
set_option maxRecDepth 100000 in
theorem sub_of_cells {H : Type} {enc : TypeId × Value → H} {W : World} (n : Nat) (cs : List Value) (y : DataW H × List MemPlace) (hl : cs.length = 2)
    (h : DataW.trod enc Tryd.prog W 0 (fun _ => true) true n 41 cs = some y) : ∃ x : Int × Int, cs = [.int .u64 x.1, .int .u64 x.2] ∧ M.fitS x := by
  match cs, hl with
  | [u, v], _ =>
    obtain ⟨y0, y1, m, h0, h1⟩ := trod_two Tryd.underlying41 h
    rw [Tryd.cellsU64] at h0 h1
    obtain ⟨a, ha, _, wa⟩ := DataW.trod_int Tryd.underlying23 h0
    obtain ⟨b, hb, _, wb⟩ := DataW.trod_int Tryd.underlying23 h1
    have e0 : u = .int .u64 a := by simpa [Value.cells] using ha
    have e1 : v = .int .u64 b := by simpa [Value.cells] using hb
    exact ⟨(a, b), by rw [e0, e1], bounds_u64 wa, bounds_u64 wb⟩
set_option maxRecDepth 100000 in
theorem sub_of_trod {H : Type} {enc : TypeId × Value → H} {W : World} {v : Value} {d : DataW H} {p : List MemPlace} {base : Nat} (hok : Value.okWide Tryd.prog W .any base 41 v)
    (h : DataW.Trod enc Tryd.prog W 0 (fun _ => true) true 41 v d p) : ∃ x : Int × Int, v = subV x ∧ M.fitS x := by
  obtain ⟨cs, rfl, hs⟩ := okWide_struct8 Tryd.underlying41 hok
  rw [Tryd.cellsSub] at hs
  obtain ⟨fuel, hf⟩ := h
  obtain ⟨t, e, ht⟩ := sub_of_cells fuel cs.toList _ (by simpa using hs) hf
  refine ⟨t, ?_, ht⟩
  unfold subV
  rw [← e]
end Go.Proofs.YtomhccendbnamaaDoor
namespace Go.Proofs.YtomhccendbnamaaDoor
open Go.RowKit
def M.lvA (h I J : Int) : List (Int × Int) := if M.subB h I J then M.lvs h I J else []
def M.spA (h I J : Int) : List (Int × Int) := if M.subB h I J then M.spl h I J else []
theorem M.lvA_yes {h I J : Int} (hs : M.subB h I J = true) : M.lvA h I J = M.lvs h I J := if_pos hs
theorem M.lvA_no {h I J : Int} (hs : M.subB h I J = false) : M.lvA h I J = [] := by unfold M.lvA; rw [hs]; rfl
theorem M.spA_yes {h I J : Int} (hs : M.subB h I J = true) : M.spA h I J = M.spl h I J := if_pos hs
theorem M.spA_no {h I J : Int} (hs : M.subB h I J = false) : M.spA h I J = [] := by unfold M.spA; rw [hs]; rfl
theorem Bi.new2 (W : World) (o o' : Obj) (t : TypeId) (x y : Int) : Bi (((W.alloc o).alloc o').alloc (.cells #[.int .u64 x, .int .u64 y] t)) (W.heap.size + 1 + 1) t x y := by
  have h := Bi.new ((W.alloc o).alloc o') t x y
  have e : ((W.alloc o).alloc o').heap.size = W.heap.size + 1 + 1 := by simp
  rw [e] at h; exact h
end Go.Proofs.YtomhccendbnamaaDoor
