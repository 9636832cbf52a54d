/-
  A slice argument that can be read holds a list (of numbers, of spans). No condition.
-/
import Derived.Test.YthmiekinjfaflaaGreatZA3
import Derived.Test.YthmiekinjfaflaaGreatZH1
import Derived.ProofKit
import Derived.OpenShut
import Derived.Deep.SlicePairs
import Derived.Deep.Strs
import Derived.Deep.DeepCutAuto
import Derived.Laws.StructEq
import Derived.ChangeKeysEq
namespace Go.Proofs.YthmiekinjfaflaaGreat
open Go.ChangeShapes Go.WideShapes Go.ChangeAt Go.RowKit
set_option maxRecDepth 100000 in
theorem Tryz.cellsU64 : Tryz.prog.cellsOf 23 = 1 := by kernel_rfl
set_option maxRecDepth 100000 in
theorem us_of_trod {H : Type} {enc : TypeId × Value → H} {W : World} {v : Value} {d : DataW H} {p : List MemPlace} {base : Nat} (hok : Value.okWide Tryz.prog W .any base 68 v)
    (h : DataW.Trod enc Tryz.prog W 0 (fun _ => true) true 68 v d p) (hlt : ∀ x ∈ p, x.block < W.heap.size) : ∃ L, Us W v L := by
  obtain ⟨a0, len, cap, rfl⟩ := okWide_slice Tryz.underlying68 hok
  obtain ⟨fuel, hf⟩ := h
  rcases open_ints Tryz.underlying68 Tryz.underlying23 Tryz.cellsU64 hf with ⟨hcs, hx⟩ | ⟨a, len', cap', zs, hcs, _, hl, hm, hz, hx, hcell, hwz⟩
  · simp [Value.cells] at hcs
    obtain ⟨rfl, rfl, rfl⟩ := hcs
    exact ⟨[], Us.nil W⟩
  · simp [Value.cells] at hcs
    obtain ⟨rfl, rfl, rfl⟩ := hcs
    simp only [Prod.mk.injEq] at hx
    obtain ⟨_, rfl⟩ := hx
    simp only [if_true] at hz
    have htl : (zs.take len).length = len := by rw [List.length_take]; omega
    refine ⟨zs.take len, some a, cap, by rw [htl], by omega, hm, fun x hx => bounds_u64 (hwz x (List.mem_of_mem_take hx)), fun h0 => ?_⟩
    obtain ⟨b, off, spot⟩ := a
    have hc0 := hcell 0 (by omega)
    have hspot : spot = none := by simpa [Addr.add] using World.cell?_spot hc0
    subst hspot
    have hb := hlt (.cell b off) (MemPlace.mem_row.2 ⟨0, by omega, by simp⟩)
    refine ⟨b, off, rfl, hb, fun j hj => ?_⟩
    rw [htl] at hj
    have := hcell j (by omega)
    rw [Addr.add_lit] at this
    rw [this, List.getElem?_take, if_pos hj]
    rfl
end Go.Proofs.YthmiekinjfaflaaGreat
namespace Go.Proofs.YthmiekinjfaflaaGreat
open Go.ChangeShapes Go.WideShapes Go.ChangeAt Go.RowKit
set_option maxRecDepth 100000 in
theorem Tryz.fieldsSub : (Tryz.prog.fieldsOf 46) = #[⟨"I", 23, 0, false, "", "", 0⟩, ⟨"J", 23, 1, false, "", "", 8⟩] := by kernel_rfl
set_option maxRecDepth 100000 in
theorem Tryz.heldSub : Tryz.prog.stoodInHeld 46 = false := by kernel_rfl
set_option maxRecDepth 100000 in
theorem Tryz.structSub : Tryz.prog.underlying 46 = some (.struct (Tryz.prog.fieldsOf 46)) := by kernel_rfl
set_option maxRecDepth 100000 in
/-- '==' of two subsets -/
theorem eqSub (a b x y : Int) (w : World) : (Op.equalIn 10000 46 (.agg #[.int .u64 a, .int .u64 b]) (.agg #[.int .u64 x, .int .u64 y])).run Tryz.prog w = .ok (decide (((a, b) : Int × Int) = (x, y))) w := by
  rw [run_equalIn_struct w 9999 _ _ _ Tryz.structSub Tryz.heldSub, Tryz.fieldsSub]
  simp [Op.eqFields, part, go_sem]
  by_cases h1 : a = x <;> by_cases h2 : b = y <;> simp [h1, h2]
theorem Ss.at {W : World} {b off n cap : Nat} {L : List (Int × Int)} (h : Ss W (.slice (some ⟨b, off, none⟩) n cap) L) {k : Nat} {x : Int × Int} (hk : L[k]? = some x) :
    W.cell? ⟨b, off + k * 2, none⟩ = some (.int .u64 x.1) ∧ W.cell? ⟨b, off + k * 2 + 1, none⟩ = some (.int .u64 x.2) :=
  ⟨Sl.at h hk (i := 0) (by decide), Sl.at h hk (i := 1) (by decide)⟩
set_option maxRecDepth 100000 in
set_option maxHeartbeats 1000000 in
theorem rsameS_yes (L : List (Int × Int)) (v1 v2 : Value) (w : World) (u1 : Ss w v1 L) (u2 : Ss w v2 L) :
    Calls Tryz.prog 13 #[v1, v2] w fun e w' => e = .returned (.bool true) ∧ Below w.heap.size w w' := by
  have hq := eqSub
  obtain ⟨a1, c1, rfl, hp1, hp2, hp4⟩ := u1.form
  obtain ⟨a2, c2, rfl, hq1, hq2, hq4⟩ := u2.form
  have hm : L.length ≤ maxLen := by omega
  unfold maxLen at hm
  have U1 := hidq u1
  have U2 := hidq u2
  have HP4 := hidq hp4
  have HQ4 := hidq hq4
  clear hp4 hq4 u1 u2
  generalize hn : L.length = n at *
  have HN := hidq hn
  clear hn
  go_enter Tryz.func13, Tryz.ntmps13
  go_wp2
  go_loopw [13] (fun i wr => ∃ k : Nat, k ≤ n ∧ i = .int .i64 k ∧ Below w.heap.size w wr) (fun i _ => n - (intOf i).toNat)
  case atStart => exact ⟨0, by omega, rfl, Below.refl _ _⟩
  case round =>
    obtain ⟨k, hk, rfl, hb⟩ := hrel
    have HB := hidq hb
    by_cases hlt : k < n
    · obtain ⟨b1, o1, rfl⟩ := HP4.out (by omega)
      obtain ⟨b2, o2, rfl⟩ := HQ4.out (by omega)
      obtain ⟨x, hx⟩ : ∃ x, L[k]? = some x := ⟨_, List.getElem?_eq_getElem (by rw [HN.out]; exact hlt)⟩
      obtain ⟨x1, x2⟩ := Ss.at (U1.out.below hb) hx
      obtain ⟨y1, y2⟩ := Ss.at (U2.out.below hb) hx
      clear hb hx
      obtain ⟨s, t⟩ := x
      go_wp2
      go_quiet (fail)
      go_wp2
      go_roundw
      case rel => exact ⟨k + 1, by omega, by go_num, below_dq HB.out _⟩
      case measure => simp [intOf]; omega
    · clear hb
      go_wp2
      go_ret
      exact ⟨rfl, HB.out⟩
set_option maxRecDepth 100000 in
set_option maxHeartbeats 1000000 in
theorem ruseful_any (h I J : Int) (w : World) (h0 : 0 ≤ I) (h1 : I ≤ 18446744073709551615) (h2 : 0 ≤ J) (h3 : J ≤ 18446744073709551615) :
    Calls Tryz.prog 35 #[.int .i64 h, .agg #[.int .u64 I, .int .u64 J]] w fun e w' => e = .returned (.tuple #[.bool (M.useV h I J), .int .i64 (M.subE h I J)]) ∧ Below w.heap.size w w' := by
  have HA := hidq (fun o => (Below.refl _ w).alloc (Nat.le_refl w.heap.size) o)
  have T1 := hidq trivial
  have T2 := hidq trivial
  have T3 := hidq trivial
  cases hs : M.subB h I J
  · have E := M.subE_no hs
    have V := M.useV_no hs
    rw [V, E]
    clear hs
    go_enter Tryz.func35, Tryz.ntmps35
    go_wp2_with (first | (go_at_call 37; refine (rcheck8_any h I _ _ (by omega) (by omega) (by omega) (by omega)).mono ?_; rintro e w1 ⟨rfl, hb1⟩; have X1 := (Bi.new w 46 I _).below hb1; obtain ⟨X1a, X1b⟩ := X1.facts; have hB1 := below_trans (HA.out _) hb1))
    go_ret2
    exact ⟨rfl, hB1⟩
  · have E := M.subE_yes hs
    by_cases hJ : J = 0
    · subst hJ
      obtain ⟨r, hr⟩ : ∃ r, decide (I = 1) = r := ⟨_, rfl⟩
      have V : M.useV h I 0 = r := by unfold M.useV M.useB; rw [hs, if_pos rfl, hr]; rfl
      have hr' : (I == 1) = r := hr
      rw [V, E]
      clear hs
      clear hr
      go_enter Tryz.func35, Tryz.ntmps35
      go_wp2_with (first | (go_at_call 37; refine (rcheck8_any h I _ _ (by omega) (by omega) (by omega) (by omega)).mono ?_; rintro e w1 ⟨rfl, hb1⟩; have X1 := (Bi.new w 46 I _).below hb1; obtain ⟨X1a, X1b⟩ := X1.facts; have hB1 := below_trans (HA.out _) hb1))
      go_ret2
      exact ⟨rfl, hB1⟩
    · have hJ' : (J == 0) = false := by rw [beq_eq_false_iff_ne]; exact hJ
      have hI := (M.sub_of hs).1
      obtain ⟨hh1, hh2, i1, _⟩ := M.ok_of hI
      obtain ⟨g0, _, _, gd, gh, _⟩ := M.sub_in hs hJ
      have j1 := (M.ok_of g0).2.2.1
      have d0 := M.dep_nonneg I
      obtain ⟨n1, n2, _, _, n5, _, n7⟩ := M.nx2_facts (d := M.dep I) hh1 hh2 d0 (by omega)
      have n6 := n5 (M.dep J) gh
      have V : M.useV h I J = !M.cutB h I J := by unfold M.useV M.useB; rw [hs, if_neg hJ]; rfl
      have C : M.cutB h I J = (!decide (M.dep I % M.stp h = 0) && decide (M.nxt h (M.dep I) < M.dep J)) := rfl
      rw [← n7] at C
      rw [V, E]
      clear V hs hI g0 n5 n7
      cases hsp : M.spc h (M.dep I)
      · rw [hsp] at C
        by_cases c2 : M.nxt h (M.dep I) < M.dep J
        · rw [decide_eq_true c2] at C
          have c3 : decide (M.dep J ≤ M.nx2 h (M.dep I)) = false := decide_eq_false (fun hx => n6.1 hx c2)
          rw [C]
          clear C n6 c2
          generalize hnx : M.nx2 h (M.dep I) = nx at *
          generalize hdi : M.dep I = di at *
          generalize hdj : M.dep J = dj at *
          go_enter Tryz.func35, Tryz.ntmps35
          go_wp2_with (first | (go_at_call 37; refine (rcheck8_any h I _ _ (by omega) (by omega) (by omega) (by omega)).mono ?_; rintro e w1 ⟨rfl, hb1⟩; have X1 := (Bi.new w 46 I _).below hb1; obtain ⟨X1a, X1b⟩ := X1.facts; have hB1 := below_trans (HA.out _) hb1))
          go_region_held3 (fun X => X.cell? ⟨w.heap.size, 0, none⟩ = some (.int .u64 I) ∧ X.cell? ⟨w.heap.size, 1, none⟩ = some (.int .u64 J)) (go_keep)
            (first | (go_at_call 57; clear T1; refine (depth8_any _ _ (by omega) (by omega)).mono ?_; rintro e wA ⟨rfl, hbA⟩; have hdA : Below w1.heap.size w1 wA := below_trans ((Below.refl w1.heap.size w1).drew) hbA; have XA := X1.below hdA; obtain ⟨XAa, XAb⟩ := XA.facts; have hBA := below_trans hB1 hdA) | (go_at_call 57; clear T2; refine (depth8_any _ _ (by omega) (by omega)).mono ?_; rintro e wB ⟨rfl, hbB⟩; have XB := XA.below hbB; obtain ⟨XBa, XBb⟩ := XB.facts; have hBB := below_trans hBA hbB) | (go_at_call 57; clear T3; refine (depth8_any _ _ (by omega) (by omega)).mono ?_; rintro e wC ⟨rfl, hbC⟩; have XC := XB.below hbC; obtain ⟨XCa, XCb⟩ := XC.facts; have hBC := below_trans hBB hbC) | (go_at_call 56; refine (special_any _ _ _ (by omega) (by omega) (by omega) (by omega)).mono ?_; rintro e w' ⟨rfl, hw⟩; subst w') | (go_at_call 58; refine (next_any _ _ _ (by omega) (by omega) (by omega) (by omega)).mono ?_; rintro e w' ⟨rfl, hw⟩; subst w'))
          all_goals go_wp2
          all_goals go_ret2
          all_goals exact ⟨rfl, hBC⟩
        · rw [decide_eq_false c2] at C
          have c3 : M.dep J ≤ M.nx2 h (M.dep I) := n6.2 c2
          rw [C]
          clear C n6 c2
          generalize hnx : M.nx2 h (M.dep I) = nx at *
          generalize hdi : M.dep I = di at *
          generalize hdj : M.dep J = dj at *
          go_enter Tryz.func35, Tryz.ntmps35
          go_wp2_with (first | (go_at_call 37; refine (rcheck8_any h I _ _ (by omega) (by omega) (by omega) (by omega)).mono ?_; rintro e w1 ⟨rfl, hb1⟩; have X1 := (Bi.new w 46 I _).below hb1; obtain ⟨X1a, X1b⟩ := X1.facts; have hB1 := below_trans (HA.out _) hb1))
          go_region_held3 (fun X => X.cell? ⟨w.heap.size, 0, none⟩ = some (.int .u64 I) ∧ X.cell? ⟨w.heap.size, 1, none⟩ = some (.int .u64 J)) (go_keep)
            (first | (go_at_call 57; clear T1; refine (depth8_any _ _ (by omega) (by omega)).mono ?_; rintro e wA ⟨rfl, hbA⟩; have hdA : Below w1.heap.size w1 wA := below_trans ((Below.refl w1.heap.size w1).drew) hbA; have XA := X1.below hdA; obtain ⟨XAa, XAb⟩ := XA.facts; have hBA := below_trans hB1 hdA) | (go_at_call 57; clear T2; refine (depth8_any _ _ (by omega) (by omega)).mono ?_; rintro e wB ⟨rfl, hbB⟩; have XB := XA.below hbB; obtain ⟨XBa, XBb⟩ := XB.facts; have hBB := below_trans hBA hbB) | (go_at_call 57; clear T3; refine (depth8_any _ _ (by omega) (by omega)).mono ?_; rintro e wC ⟨rfl, hbC⟩; have XC := XB.below hbC; obtain ⟨XCa, XCb⟩ := XC.facts; have hBC := below_trans hBB hbC) | (go_at_call 56; refine (special_any _ _ _ (by omega) (by omega) (by omega) (by omega)).mono ?_; rintro e w' ⟨rfl, hw⟩; subst w') | (go_at_call 58; refine (next_any _ _ _ (by omega) (by omega) (by omega) (by omega)).mono ?_; rintro e w' ⟨rfl, hw⟩; subst w'))
          all_goals go_wp2
          all_goals go_ret2
          all_goals exact ⟨rfl, hBC⟩
      · rw [hsp] at C
        rw [C]
        have SP := hidq (fun X => special_any h (M.dep I) X hh1 hh2 d0 (by omega))
        have DP := hidq (fun X => depth8_any I X i1 h1)
        rw [hsp] at SP
        clear C n6
        generalize M.dep I = di at *
        go_enter Tryz.func35, Tryz.ntmps35
        go_upto_region 5 with (first | (go_at_call 37; refine (rcheck8_any h I _ _ (by omega) (by omega) (by omega) (by omega)).mono ?_; rintro e w1 ⟨rfl, hb1⟩; have X1 := (Bi.new w 46 I _).below hb1; obtain ⟨X1a, X1b⟩ := X1.facts; have hB1 := below_trans (HA.out _) hb1))
        obtain ⟨G, HG, HF, HO, HW, ne⟩ := clq_of w w1 (fun X => Bi X w.heap.size 46 I J) (fun _ _ h hb => h.below hb) X1 hB1
        have h3 := fun c : Clq G => (HF.out c).facts.1
        have h4 := fun c : Clq G => (HF.out c).facts.2
        clear X1 X1a X1b hB1 hb1
        refine regionq (by kernel_rfl) (by kernel_rfl) HW.out ?_
        repeat (go_big_quiet_step (first | (go_at_call 57; exact quietq HG.out _ (DP.out _)) | (go_at_call 56; exact quietq_same _ (SP.out _))))
        refine wpQuiet_nil ?_
        rintro _ ⟨s2, rfl⟩
        have hB2 := hidq (HO.out s2)
        go_wp2
        go_ret2
        exact ⟨rfl, hB2.out⟩
theorem M.live8 : M.subB 4 2 16 = true := by decide +kernel
theorem M.live8s : M.spl 4 2 16 = [(2, 4), (4, 16)] := by decide +kernel
set_option maxRecDepth 100000 in
theorem Tryz.cellsSub : Tryz.prog.cellsOf 46 = 2 := by kernel_rfl
theorem okWide_struct8 {P : Program} {w : World} {r : Reach} {base : Nat} {t : TypeId} {v : Value} {fs : Array Field} (ht : P.underlying t = some (.struct fs)) (h : Value.okWide P w r base t v) : ∃ cs, v = .agg cs ∧ cs.size = P.cellsOf t := by
  simp only [Value.okWide, ht] at h
  obtain ⟨cs, h1, h2, _⟩ := h
  exact ⟨cs, h1, h2⟩
theorem trod_two {H : Type} {enc : TypeId × Value → H} {P : Program} {W : World} {base : Nat} {spare : Nat → Bool} {held : Bool} {t : TypeId} {f0 f1 : Field} {fuel : Nat} {cs : List Value} {x : DataW H × List MemPlace} (ht : P.underlying t = some (.struct #[f0, f1])) (h : DataW.trod enc P W base spare held fuel t cs = some x) :
    ∃ y0 y1 n, DataW.trod enc P W base spare held n f0.type ((cs.drop f0.offset).take (P.cellsOf f0.type)) = some y0 ∧ DataW.trod enc P W base spare held n f1.type ((cs.drop f1.offset).take (P.cellsOf f1.type)) = some y1 := by
  obtain ⟨xs, n, _, rfl, _, hlen, hf⟩ := DataW.trod_struct ht h
  match xs, hlen with
  | [y0, y1], _ => exact ⟨y0, y1, n, by simpa using hf 0 f0 rfl, by simpa using hf 1 f1 rfl⟩
def M.fitS (x : Int × Int) : Prop := (0 ≤ x.1 ∧ x.1 ≤ 18446744073709551615) ∧ 0 ≤ x.2 ∧ x.2 ≤ 18446744073709551615
def subV (x : Int × Int) : Value := .agg #[.int .u64 x.1, .int .u64 x.2]
set_option maxRecDepth 100000 in
theorem sub_of_cells {H : Type} {enc : TypeId × Value → H} {W : World} (n : Nat) (cs : List Value) (y : DataW H × List MemPlace) (hl : cs.length = 2)
    (h : DataW.trod enc Tryz.prog W 0 (fun _ => true) true n 46 cs = some y) : ∃ x : Int × Int, cs = [.int .u64 x.1, .int .u64 x.2] ∧ M.fitS x := by
  match cs, hl with
  | [u, v], _ =>
    obtain ⟨y0, y1, m, h0, h1⟩ := trod_two Tryz.underlying46 h
    rw [Tryz.cellsU64] at h0 h1
    obtain ⟨a, ha, _, wa⟩ := DataW.trod_int Tryz.underlying23 h0
    obtain ⟨b, hb, _, wb⟩ := DataW.trod_int Tryz.underlying23 h1
    have e0 : u = .int .u64 a := by simpa [Value.cells] using ha
    have e1 : v = .int .u64 b := by simpa [Value.cells] using hb
    exact ⟨(a, b), by rw [e0, e1], bounds_u64 wa, bounds_u64 wb⟩
set_option maxRecDepth 100000 in
theorem sub_of_trod {H : Type} {enc : TypeId × Value → H} {W : World} {v : Value} {d : DataW H} {p : List MemPlace} {base : Nat} (hok : Value.okWide Tryz.prog W .any base 46 v)
    (h : DataW.Trod enc Tryz.prog W 0 (fun _ => true) true 46 v d p) : ∃ x : Int × Int, v = subV x ∧ M.fitS x := by
  obtain ⟨cs, rfl, hs⟩ := okWide_struct8 Tryz.underlying46 hok
  rw [Tryz.cellsSub] at hs
  obtain ⟨fuel, hf⟩ := h
  obtain ⟨t, e, ht⟩ := sub_of_cells fuel cs.toList _ (by simpa using hs) hf
  refine ⟨t, ?_, ht⟩
  unfold subV
  rw [← e]
end Go.Proofs.YthmiekinjfaflaaGreat
namespace Go.Proofs.YthmiekinjfaflaaGreat
open Go.RowKit
def M.lvA (h I J : Int) : List (Int × Int) := if M.subB h I J then M.lvs h I J else []
def M.spA (h I J : Int) : List (Int × Int) := if M.subB h I J then M.spl h I J else []
theorem M.lvA_yes {h I J : Int} (hs : M.subB h I J = true) : M.lvA h I J = M.lvs h I J := if_pos hs
theorem M.lvA_no {h I J : Int} (hs : M.subB h I J = false) : M.lvA h I J = [] := by unfold M.lvA; rw [hs]; rfl
theorem M.spA_yes {h I J : Int} (hs : M.subB h I J = true) : M.spA h I J = M.spl h I J := if_pos hs
theorem M.spA_no {h I J : Int} (hs : M.subB h I J = false) : M.spA h I J = [] := by unfold M.spA; rw [hs]; rfl
theorem Bi.new2 (W : World) (o o' : Obj) (t : TypeId) (x y : Int) : Bi (((W.alloc o).alloc o').alloc (.cells #[.int .u64 x, .int .u64 y] t)) (W.heap.size + 1 + 1) t x y := by
  have h := Bi.new ((W.alloc o).alloc o') t x y
  have e : ((W.alloc o).alloc o').heap.size = W.heap.size + 1 + 1 := by simp
  rw [e] at h; exact h
end Go.Proofs.YthmiekinjfaflaaGreat
