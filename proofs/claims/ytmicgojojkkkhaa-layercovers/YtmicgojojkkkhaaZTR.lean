/-
  A slice argument that can be read holds a list (of numbers, of spans). No condition.
-/
import Derived.Test.YtmicgojojkkkhaaZA7
import Derived.Test.YtmicgojojkkkhaaZH1
import Derived.Test.YtmicgojojkkkhaaZQ3
import Derived.ProofKit
import Derived.OpenShut
import Derived.Deep.SlicePairs
import Derived.Deep.Strs
import Derived.Deep.DeepCutAuto
import Derived.Laws.StructEq
import Derived.ChangeKeysEq
namespace Go.Proofs.Ytmicgojojkkkhaa
open Go.ChangeShapes Go.WideShapes Go.ChangeAt Go.RowKit
set_option maxRecDepth 100000 in
theorem Try.cellsU64 : Try.prog.cellsOf 25 = 1 := by kernel_rfl
set_option maxRecDepth 100000 in
theorem us_of_trod {H : Type} {enc : TypeId × Value → H} {W : World} {v : Value} {d : DataW H} {p : List MemPlace} {base : Nat} (hok : Value.okWide Try.prog W .any base 31 v)
    (h : DataW.Trod enc Try.prog W 0 (fun _ => true) true 31 v d p) (hlt : ∀ x ∈ p, x.block < W.heap.size) : ∃ L, Us W v L := by
  obtain ⟨a0, len, cap, rfl⟩ := okWide_slice Try.underlying31 hok
  obtain ⟨fuel, hf⟩ := h
  rcases open_ints Try.underlying31 Try.underlying25 Try.cellsU64 hf with ⟨hcs, hx⟩ | ⟨a, len', cap', zs, hcs, _, hl, hm, hz, hx, hcell, hwz⟩
  · simp [Value.cells] at hcs
    obtain ⟨rfl, rfl, rfl⟩ := hcs
    exact ⟨[], Us.nil W⟩
  · simp [Value.cells] at hcs
    obtain ⟨rfl, rfl, rfl⟩ := hcs
    simp only [Prod.mk.injEq] at hx
    obtain ⟨_, rfl⟩ := hx
    simp only [if_true] at hz
    have htl : (zs.take len).length = len := by rw [List.length_take]; omega
    refine ⟨zs.take len, some a, cap, by rw [htl], by omega, hm, fun x hx => bounds_u64 (hwz x (List.mem_of_mem_take hx)), fun h0 => ?_⟩
    obtain ⟨b, off, spot⟩ := a
    have hc0 := hcell 0 (by omega)
    have hspot : spot = none := by simpa [Addr.add] using World.cell?_spot hc0
    subst hspot
    have hb := hlt (.cell b off) (MemPlace.mem_row.2 ⟨0, by omega, by simp⟩)
    refine ⟨b, off, rfl, hb, fun j hj => ?_⟩
    rw [htl] at hj
    have := hcell j (by omega)
    rw [Addr.add_lit] at this
    rw [this, List.getElem?_take, if_pos hj]
    rfl
set_option maxRecDepth 100000 in
theorem Try.cellsSpan : Try.prog.cellsOf 49 = 2 := by kernel_rfl
set_option maxRecDepth 100000 in
theorem ps_of_trod {H : Type} {enc : TypeId × Value → H} {W : World} {v : Value} {d : DataW H} {p : List MemPlace} {base : Nat} (hok : Value.okWide Try.prog W .any base 41 v)
    (h : DataW.Trod enc Try.prog W 0 (fun _ => true) true 41 v d p) (hlt : ∀ x ∈ p, x.block < W.heap.size) : ∃ S, Ps W v S := by
  obtain ⟨a0, len, cap, rfl⟩ := okWide_slice Try.underlying41 hok
  obtain ⟨fuel, hf⟩ := h
  rcases Go.Deep.open_slice_pairs Try.underlying41 Try.underlying49 Try.cellsSpan rfl rfl Try.cellsU64 Try.cellsU64 hf with ⟨hcs, hx⟩ | ⟨a, len', cap', m, n, V0, V1, D0, D1, P0, P1, hcs, _, hl, hm, hmm, hx, hcell⟩
  · simp [Value.cells] at hcs
    obtain ⟨rfl, rfl, rfl⟩ := hcs
    exact ⟨[], none, 0, rfl, by simp, by simp [maxLen], by simp, fun h => by omega⟩
  · simp [Value.cells] at hcs
    obtain ⟨rfl, rfl, rfl⟩ := hcs
    simp only [Prod.mk.injEq] at hx
    obtain ⟨_, rfl⟩ := hx
    simp only [if_true] at hmm
    subst hmm
    have each : ∀ i, i < m → ∃ x y : Int, V0 i = .int .u64 x ∧ V1 i = .int .u64 y ∧ (0 ≤ x ∧ x ≤ 18446744073709551615) ∧ (0 ≤ y ∧ y ≤ 18446744073709551615) := by
      intro i hi
      obtain ⟨_, _, h1, h2⟩ := hcell i hi
      obtain ⟨x, hx, _, hw⟩ := DataW.trod_int Try.underlying25 h1
      obtain ⟨y, hy, _, hw2⟩ := DataW.trod_int Try.underlying25 h2
      exact ⟨x, y, by simpa using hx, by simpa using hy, bounds_u64 hw, bounds_u64 hw2⟩
    have num : ∀ v : Value, ∀ x : Int, v = .int .u64 x → intOf v = x := fun v x e => by subst e; rfl
    refine ⟨(List.range len).map fun i => (intOf (V0 i), intOf (V1 i)), some a, m, by simp, by simpa using hl, hm, ?_, fun h0 => ?_⟩
    · intro x hx
      obtain ⟨i, hi, rfl⟩ := List.mem_map.1 hx
      have hi' := List.mem_range.1 hi
      obtain ⟨x, y, e1, e2, b1, b2⟩ := each i (by omega)
      rw [num _ _ e1, num _ _ e2]
      exact ⟨b1.1, b1.2, b2.1, b2.2⟩
    · obtain ⟨b, off, spot⟩ := a
      have hc0 := (hcell 0 (by omega)).1
      have hspot : spot = none := by simpa [Addr.add] using World.cell?_spot hc0
      subst hspot
      have hb := hlt (.cell b off) (List.mem_append_left _ (MemPlace.mem_row.2 ⟨0, by omega, by simp⟩))
      refine ⟨b, off, rfl, hb, fun j hj => ?_⟩
      simp only [List.length_map, List.length_range] at hj
      obtain ⟨c1, c2, _, _⟩ := hcell j (by omega)
      obtain ⟨x, y, e1, e2, _, _⟩ := each j (by omega)
      rw [Addr.add_lit] at c1 c2
      rw [c1, ← Nat.add_assoc] at *
      simp only [List.getElem?_map, List.getElem?_range hj, Option.map_some, Option.getD_some]
      rw [c2, e1, e2]
      exact ⟨rfl, rfl⟩
end Go.Proofs.Ytmicgojojkkkhaa
namespace Go.Proofs.Ytmicgojojkkkhaa
open Go.ChangeShapes Go.WideShapes Go.ChangeAt Go.RowKit
set_option maxRecDepth 100000 in
theorem Try.fieldsSub : (Try.prog.fieldsOf 27) = #[⟨"I", 25, 0, false, "", "", 0⟩, ⟨"J", 25, 1, false, "", "", 8⟩] := by kernel_rfl
set_option maxRecDepth 100000 in
theorem Try.heldSub : Try.prog.stoodInHeld 27 = false := by kernel_rfl
set_option maxRecDepth 100000 in
theorem Try.structSub : Try.prog.underlying 27 = some (.struct (Try.prog.fieldsOf 27)) := by kernel_rfl
set_option maxRecDepth 100000 in
/-- '==' of two subsets -/
theorem eqSub (a b x y : Int) (w : World) : (Op.equalIn 10000 27 (.agg #[.int .u64 a, .int .u64 b]) (.agg #[.int .u64 x, .int .u64 y])).run Try.prog w = .ok (decide (((a, b) : Int × Int) = (x, y))) w := by
  rw [run_equalIn_struct w 9999 _ _ _ Try.structSub Try.heldSub, Try.fieldsSub]
  simp [Op.eqFields, part, go_sem]
  by_cases h1 : a = x <;> by_cases h2 : b = y <;> simp [h1, h2]
theorem Ss.at {W : World} {b off n cap : Nat} {L : List (Int × Int)} (h : Ss W (.slice (some ⟨b, off, none⟩) n cap) L) {k : Nat} {x : Int × Int} (hk : L[k]? = some x) :
    W.cell? ⟨b, off + k * 2, none⟩ = some (.int .u64 x.1) ∧ W.cell? ⟨b, off + k * 2 + 1, none⟩ = some (.int .u64 x.2) :=
  ⟨Sl.at h hk (i := 0) (by decide), Sl.at h hk (i := 1) (by decide)⟩
set_option maxRecDepth 100000 in
set_option maxHeartbeats 1000000 in
theorem rsameS_yes (L : List (Int × Int)) (v1 v2 : Value) (w : World) (u1 : Ss w v1 L) (u2 : Ss w v2 L) :
    Calls Try.prog 10 #[v1, v2] w fun e w' => e = .returned (.bool true) ∧ Below w.heap.size w w' := by
  have hq := eqSub
  obtain ⟨a1, c1, rfl, hp1, hp2, hp4⟩ := u1.form
  obtain ⟨a2, c2, rfl, hq1, hq2, hq4⟩ := u2.form
  have hm : L.length ≤ maxLen := by omega
  unfold maxLen at hm
  have U1 := hidq u1
  have U2 := hidq u2
  have HP4 := hidq hp4
  have HQ4 := hidq hq4
  clear hp4 hq4 u1 u2
  generalize hn : L.length = n at *
  have HN := hidq hn
  clear hn
  go_enter Try.func10, Try.ntmps10
  go_wp2
  go_loopw [13] (fun i wr => ∃ k : Nat, k ≤ n ∧ i = .int .i64 k ∧ Below w.heap.size w wr) (fun i _ => n - (intOf i).toNat)
  case atStart => exact ⟨0, by omega, rfl, Below.refl _ _⟩
  case round =>
    obtain ⟨k, hk, rfl, hb⟩ := hrel
    have HB := hidq hb
    by_cases hlt : k < n
    · obtain ⟨b1, o1, rfl⟩ := HP4.out (by omega)
      obtain ⟨b2, o2, rfl⟩ := HQ4.out (by omega)
      obtain ⟨x, hx⟩ : ∃ x, L[k]? = some x := ⟨_, List.getElem?_eq_getElem (by rw [HN.out]; exact hlt)⟩
      obtain ⟨x1, x2⟩ := Ss.at (U1.out.below hb) hx
      obtain ⟨y1, y2⟩ := Ss.at (U2.out.below hb) hx
      clear hb hx
      obtain ⟨s, t⟩ := x
      go_wp2
      go_quiet (fail)
      go_wp2
      go_roundw
      case rel => exact ⟨k + 1, by omega, by go_num, below_dq HB.out _⟩
      case measure => simp [intOf]; omega
    · clear hb
      go_wp2
      go_ret
      exact ⟨rfl, HB.out⟩
theorem M.live8 : M.subB 4 2 16 = true := by decide +kernel
theorem M.live8s : M.spl 4 2 16 = [(2, 4), (4, 16)] := by decide +kernel
set_option maxRecDepth 100000 in
theorem Try.cellsSub : Try.prog.cellsOf 27 = 2 := by kernel_rfl
theorem okWide_struct8 {P : Program} {w : World} {r : Reach} {base : Nat} {t : TypeId} {v : Value} {fs : Array Field} (ht : P.underlying t = some (.struct fs)) (h : Value.okWide P w r base t v) : ∃ cs, v = .agg cs ∧ cs.size = P.cellsOf t := by
  simp only [Value.okWide, ht] at h
  obtain ⟨cs, h1, h2, _⟩ := h
  exact ⟨cs, h1, h2⟩
theorem trod_two {H : Type} {enc : TypeId × Value → H} {P : Program} {W : World} {base : Nat} {spare : Nat → Bool} {held : Bool} {t : TypeId} {f0 f1 : Field} {fuel : Nat} {cs : List Value} {x : DataW H × List MemPlace} (ht : P.underlying t = some (.struct #[f0, f1])) (h : DataW.trod enc P W base spare held fuel t cs = some x) :
    ∃ y0 y1 n, DataW.trod enc P W base spare held n f0.type ((cs.drop f0.offset).take (P.cellsOf f0.type)) = some y0 ∧ DataW.trod enc P W base spare held n f1.type ((cs.drop f1.offset).take (P.cellsOf f1.type)) = some y1 := by
  obtain ⟨xs, n, _, rfl, _, hlen, hf⟩ := DataW.trod_struct ht h
  match xs, hlen with
  | [y0, y1], _ => exact ⟨y0, y1, n, by simpa using hf 0 f0 rfl, by simpa using hf 1 f1 rfl⟩
def M.fitS (x : Int × Int) : Prop := (0 ≤ x.1 ∧ x.1 ≤ 18446744073709551615) ∧ 0 ≤ x.2 ∧ x.2 ≤ 18446744073709551615
def subV (x : Int × Int) : Value := .agg #[.int .u64 x.1, .int .u64 x.2]
set_option maxRecDepth 100000 in
theorem sub_of_cells {H : Type} {enc : TypeId × Value → H} {W : World} (n : Nat) (cs : List Value) (y : DataW H × List MemPlace) (hl : cs.length = 2)
    (h : DataW.trod enc Try.prog W 0 (fun _ => true) true n 27 cs = some y) : ∃ x : Int × Int, cs = [.int .u64 x.1, .int .u64 x.2] ∧ M.fitS x := by
  match cs, hl with
  | [u, v], _ =>
    obtain ⟨y0, y1, m, h0, h1⟩ := trod_two Try.underlying27 h
    rw [Try.cellsU64] at h0 h1
    obtain ⟨a, ha, _, wa⟩ := DataW.trod_int Try.underlying25 h0
    obtain ⟨b, hb, _, wb⟩ := DataW.trod_int Try.underlying25 h1
    have e0 : u = .int .u64 a := by simpa [Value.cells] using ha
    have e1 : v = .int .u64 b := by simpa [Value.cells] using hb
    exact ⟨(a, b), by rw [e0, e1], bounds_u64 wa, bounds_u64 wb⟩
set_option maxRecDepth 100000 in
theorem sub_of_trod {H : Type} {enc : TypeId × Value → H} {W : World} {v : Value} {d : DataW H} {p : List MemPlace} {base : Nat} (hok : Value.okWide Try.prog W .any base 27 v)
    (h : DataW.Trod enc Try.prog W 0 (fun _ => true) true 27 v d p) : ∃ x : Int × Int, v = subV x ∧ M.fitS x := by
  obtain ⟨cs, rfl, hs⟩ := okWide_struct8 Try.underlying27 hok
  rw [Try.cellsSub] at hs
  obtain ⟨fuel, hf⟩ := h
  obtain ⟨t, e, ht⟩ := sub_of_cells fuel cs.toList _ (by simpa using hs) hf
  refine ⟨t, ?_, ht⟩
  unfold subV
  rw [← e]
end Go.Proofs.Ytmicgojojkkkhaa
namespace Go.Proofs.Ytmicgojojkkkhaa
open Go.RowKit
def M.lvA (h I J : Int) : List (Int × Int) := if M.subB h I J then M.lvs h I J else []
def M.spA (h I J : Int) : List (Int × Int) := if M.subB h I J then M.spl h I J else []
theorem M.lvA_yes {h I J : Int} (hs : M.subB h I J = true) : M.lvA h I J = M.lvs h I J := if_pos hs
theorem M.lvA_no {h I J : Int} (hs : M.subB h I J = false) : M.lvA h I J = [] := by unfold M.lvA; rw [hs]; rfl
theorem M.spA_yes {h I J : Int} (hs : M.subB h I J = true) : M.spA h I J = M.spl h I J := if_pos hs
theorem M.spA_no {h I J : Int} (hs : M.subB h I J = false) : M.spA h I J = [] := by unfold M.spA; rw [hs]; rfl
set_option maxRecDepth 100000 in
theorem leaves8_all (h I J : Int) (w : World) (h0 : 0 ≤ I) (h1 : I ≤ 18446744073709551615) (h2 : 0 ≤ J) (h3 : J ≤ 18446744073709551615) :
    Calls Try.prog 17 #[.int .i64 h, .agg #[.int .u64 I, .int .u64 J]] w fun e w' => ∃ ao c, e = .returned (.tuple #[.slice ao (M.lvA h I J).length c, .int .i64 (M.subE h I J)]) ∧ Ps w' (.slice ao (M.lvA h I J).length c) (M.lvA h I J) ∧ Below w.heap.size w w' := by
  cases hs : M.subB h I J
  · rw [M.lvA_no hs, M.subE_no hs]
    refine (leaves8_no h I J w hs h0 h1 h2 h3).mono ?_
    rintro e w' ⟨rfl, hb⟩
    exact ⟨none, 0, rfl, Ps.empty, hb⟩
  · rw [M.lvA_yes hs, M.subE_yes hs]
    refine (leaves8_yes h I J w hs h0 h1 h2 h3).mono ?_
    rintro e w' ⟨v, rfl, hp, hb⟩
    obtain ⟨ao, c, rfl, _⟩ := hp.form
    exact ⟨_, _, rfl, hp, hb⟩
set_option maxRecDepth 100000 in
theorem split_all (h I J : Int) (w : World) (h0 : 0 ≤ I) (h1 : I ≤ 18446744073709551615) (h2 : 0 ≤ J) (h3 : J ≤ 18446744073709551615) :
    Calls Try.prog 52 #[.int .i64 h, .agg #[.int .u64 I, .int .u64 J]] w fun e w' => ∃ ao c, e = .returned (.tuple #[.slice ao (M.spA h I J).length c, .int .i64 (M.subE h I J)]) ∧ Ss w' (.slice ao (M.spA h I J).length c) (M.spA h I J) ∧ Below w.heap.size w w' := by
  cases hs : M.subB h I J
  · rw [M.spA_no hs, M.subE_no hs]
    refine (split_no h I J w hs h0 h1 h2 h3).mono ?_
    rintro e w' ⟨rfl, hb⟩
    exact ⟨none, 0, rfl, Sl.empty, hb⟩
  · rw [M.spA_yes hs, M.subE_yes hs]
    refine (split_yes h I J w hs h0 h1 h2 h3).mono ?_
    rintro e w' ⟨v, rfl, hp, hb⟩
    obtain ⟨ao, c, rfl, _⟩ := hp.form
    exact ⟨_, _, rfl, hp, hb⟩
theorem Bi.new2 (W : World) (o o' : Obj) (t : TypeId) (x y : Int) : Bi (((W.alloc o).alloc o').alloc (.cells #[.int .u64 x, .int .u64 y] t)) (W.heap.size + 1 + 1) t x y := by
  have h := Bi.new ((W.alloc o).alloc o') t x y
  have e : ((W.alloc o).alloc o').heap.size = W.heap.size + 1 + 1 := by simp
  rw [e] at h; exact h
end Go.Proofs.Ytmicgojojkkkhaa
