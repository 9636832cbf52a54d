/-
  '==' of subsets; what the document's own answers Same, Useful and Split of layer 8 come to; the chapter's own example; an argument that can be read is a subset. Conditions: each theorem's own premises.
-/
import Derived.Test.YtjaikcnfepbpgaaZA8
import Derived.Test.YtjaikcnfepbpgaaZQ3
import Derived.Test.YtjaikcnfepbpgaaZTR
import Derived.Deep.Strs
import Derived.Deep.DeepCutAuto
import Derived.Laws.StructEq
import Derived.ChangeKeysEq
namespace Go.Proofs.Ytjaikcnfepbpgaa
open Go.ChangeShapes Go.WideShapes Go.ChangeAt Go.RowKit
set_option maxRecDepth 100000 in
theorem Try.fieldsS : (Try.prog.fieldsOf 36) = #[⟨"I", 28, 0, false, "", "", 0⟩, ⟨"J", 28, 1, false, "", "", 8⟩] := by kernel_rfl
set_option maxRecDepth 100000 in
theorem Try.heldS : Try.prog.stoodInHeld 36 = false := by kernel_rfl
set_option maxRecDepth 100000 in
theorem Try.structS : Try.prog.underlying 36 = some (.struct (Try.prog.fieldsOf 36)) := by kernel_rfl
set_option maxRecDepth 100000 in
/-- '==' of two subsets -/
theorem eqSub (a b x y : Int) (w : World) : (Op.equalIn 10000 36 (.agg #[.int .u64 a, .int .u64 b]) (.agg #[.int .u64 x, .int .u64 y])).run Try.prog w = .ok (decide (((a, b) : Int × Int) = (x, y))) w := by
  rw [run_equalIn_struct w 9999 _ _ _ Try.structS Try.heldS, Try.fieldsS]
  simp [Op.eqFields, part, go_sem]
  by_cases h1 : a = x <;> by_cases h2 : b = y <;> simp [h1, h2]
theorem Ss.at {W : World} {b off n cap : Nat} {L : List (Int × Int)} (h : Ss W (.slice (some ⟨b, off, none⟩) n cap) L) {k : Nat} {x : Int × Int} (hk : L[k]? = some x) :
    W.cell? ⟨b, off + k * 2, none⟩ = some (.int .u64 x.1) ∧ W.cell? ⟨b, off + k * 2 + 1, none⟩ = some (.int .u64 x.2) :=
  ⟨Sl.at h hk (i := 0) (by decide), Sl.at h hk (i := 1) (by decide)⟩
set_option maxRecDepth 100000 in
set_option maxHeartbeats 1000000 in
theorem rsameS_yes (L : List (Int × Int)) (v1 v2 : Value) (w : World) (u1 : Ss w v1 L) (u2 : Ss w v2 L) :
    Calls Try.prog 13 #[v1, v2] w fun e w' => e = .returned (.bool true) ∧ Below w.heap.size w w' := by
  have hq := eqSub
  obtain ⟨a1, c1, rfl, hp1, hp2, hp4⟩ := u1.form
  obtain ⟨a2, c2, rfl, hq1, hq2, hq4⟩ := u2.form
  have hm : L.length ≤ maxLen := by omega
  unfold maxLen at hm
  have U1 := hidq u1
  have U2 := hidq u2
  have HP4 := hidq hp4
  have HQ4 := hidq hq4
  clear hp4 hq4 u1 u2
  generalize hn : L.length = n at *
  have HN := hidq hn
  clear hn
  go_enter Try.func13, Try.ntmps13
  go_wp2
  go_loopw [13] (fun i wr => ∃ k : Nat, k ≤ n ∧ i = .int .i64 k ∧ Below w.heap.size w wr) (fun i _ => n - (intOf i).toNat)
  case atStart => exact ⟨0, by omega, rfl, Below.refl _ _⟩
  case round =>
    obtain ⟨k, hk, rfl, hb⟩ := hrel
    have HB := hidq hb
    by_cases hlt : k < n
    · obtain ⟨b1, o1, rfl⟩ := HP4.out (by omega)
      obtain ⟨b2, o2, rfl⟩ := HQ4.out (by omega)
      obtain ⟨x, hx⟩ : ∃ x, L[k]? = some x := ⟨_, List.getElem?_eq_getElem (by rw [HN.out]; exact hlt)⟩
      obtain ⟨x1, x2⟩ := Ss.at (U1.out.below hb) hx
      obtain ⟨y1, y2⟩ := Ss.at (U2.out.below hb) hx
      clear hb hx
      obtain ⟨s, t⟩ := x
      go_wp2
      go_quiet (fail)
      go_wp2
      go_roundw
      case rel => exact ⟨k + 1, by omega, by go_num, below_dq HB.out _⟩
      case measure => simp [intOf]; omega
    · clear hb
      go_wp2
      go_ret
      exact ⟨rfl, HB.out⟩
theorem M.live8 : M.subB 4 2 16 = true := by decide +kernel
theorem M.live8s : M.spl 4 2 16 = [(2, 4), (4, 16)] := by decide +kernel
set_option maxRecDepth 100000 in
theorem Try.cellsSub : Try.prog.cellsOf 36 = 2 := by kernel_rfl
theorem okWide_struct8 {P : Program} {w : World} {r : Reach} {base : Nat} {t : TypeId} {v : Value} {fs : Array Field} (ht : P.underlying t = some (.struct fs)) (h : Value.okWide P w r base t v) : ∃ cs, v = .agg cs ∧ cs.size = P.cellsOf t := by
  simp only [Value.okWide, ht] at h
  obtain ⟨cs, h1, h2, _⟩ := h
  exact ⟨cs, h1, h2⟩
theorem trod_two {H : Type} {enc : TypeId × Value → H} {P : Program} {W : World} {base : Nat} {spare : Nat → Bool} {held : Bool} {t : TypeId} {f0 f1 : Field} {fuel : Nat} {cs : List Value} {x : DataW H × List MemPlace} (ht : P.underlying t = some (.struct #[f0, f1])) (h : DataW.trod enc P W base spare held fuel t cs = some x) :
    ∃ y0 y1 n, DataW.trod enc P W base spare held n f0.type ((cs.drop f0.offset).take (P.cellsOf f0.type)) = some y0 ∧ DataW.trod enc P W base spare held n f1.type ((cs.drop f1.offset).take (P.cellsOf f1.type)) = some y1 := by
  obtain ⟨xs, n, _, rfl, _, hlen, hf⟩ := DataW.trod_struct ht h
  match xs, hlen with
  | [y0, y1], _ => exact ⟨y0, y1, n, by simpa using hf 0 f0 rfl, by simpa using hf 1 f1 rfl⟩
def M.fitS (x : Int × Int) : Prop := (0 ≤ x.1 ∧ x.1 ≤ 18446744073709551615) ∧ 0 ≤ x.2 ∧ x.2 ≤ 18446744073709551615
def subV (x : Int × Int) : Value := .agg #[.int .u64 x.1, .int .u64 x.2]
set_option maxRecDepth 100000 in
theorem sub_of_cells {H : Type} {enc : TypeId × Value → H} {W : World} (n : Nat) (cs : List Value) (y : DataW H × List MemPlace) (hl : cs.length = 2)
    (h : DataW.trod enc Try.prog W 0 (fun _ => true) true n 36 cs = some y) : ∃ x : Int × Int, cs = [.int .u64 x.1, .int .u64 x.2] ∧ M.fitS x := by
  match cs, hl with
  | [u, v], _ =>
    obtain ⟨y0, y1, m, h0, h1⟩ := trod_two Try.underlying36 h
    rw [Try.cellsU64] at h0 h1
    obtain ⟨a, ha, _, wa⟩ := DataW.trod_int Try.underlying28 h0
    obtain ⟨b, hb, _, wb⟩ := DataW.trod_int Try.underlying28 h1
    have e0 : u = .int .u64 a := by simpa [Value.cells] using ha
    have e1 : v = .int .u64 b := by simpa [Value.cells] using hb
    exact ⟨(a, b), by rw [e0, e1], bounds_u64 wa, bounds_u64 wb⟩
set_option maxRecDepth 100000 in
theorem sub_of_trod {H : Type} {enc : TypeId × Value → H} {W : World} {v : Value} {d : DataW H} {p : List MemPlace} {base : Nat} (hok : Value.okWide Try.prog W .any base 36 v)
    (h : DataW.Trod enc Try.prog W 0 (fun _ => true) true 36 v d p) : ∃ x : Int × Int, v = subV x ∧ M.fitS x := by
  obtain ⟨cs, rfl, hs⟩ := okWide_struct8 Try.underlying36 hok
  rw [Try.cellsSub] at hs
  obtain ⟨fuel, hf⟩ := h
  obtain ⟨t, e, ht⟩ := sub_of_cells fuel cs.toList _ (by simpa using hs) hf
  refine ⟨t, ?_, ht⟩
  unfold subV
  rw [← e]
end Go.Proofs.Ytjaikcnfepbpgaa
