/-
  '==' of terms; what the document's own Same and place come to at every input. Conditions: the slices hold terms.
-/
import Derived.Test.YthmiekinjfaflaaGreatZA3
import Derived.Test.YthmiekinjfaflaaGreatZQ1
namespace Go.Proofs.YthmiekinjfaflaaGreat
open Go.RowKit
set_option maxRecDepth 100000 in
theorem Tryz.fieldsT : (Tryz.prog.fieldsOf 39) = #[⟨"Kind", 3, 0, false, "", "", 0⟩, ⟨"A", 3, 1, false, "", "", 8⟩, ⟨"B", 3, 2, false, "", "", 16⟩] := by kernel_rfl
set_option maxRecDepth 100000 in
theorem Tryz.heldT : Tryz.prog.stoodInHeld 39 = false := by kernel_rfl
set_option maxRecDepth 100000 in
theorem Tryz.structT : Tryz.prog.underlying 39 = some (.struct (Tryz.prog.fieldsOf 39)) := by kernel_rfl
set_option maxRecDepth 100000 in
/-- '==' of two terms -/
theorem eqT (a b c x y z : Int) (w : World) : (Op.equalIn 10000 39 (.agg #[.int .i64 a, .int .i64 b, .int .i64 c]) (.agg #[.int .i64 x, .int .i64 y, .int .i64 z])).run Tryz.prog w = .ok (decide (((a, b, c) : M.Tm) = (x, y, z))) w := by
  rw [run_equalIn_struct w 9999 _ _ _ Tryz.structT Tryz.heldT, Tryz.fieldsT]
  simp [Op.eqFields, part, go_sem]
  by_cases h1 : a = x <;> by_cases h2 : b = y <;> by_cases h3 : c = z <;> simp [h1, h2, h3]
set_option maxRecDepth 100000 in
set_option maxHeartbeats 1000000 in
theorem rsame_any (A B : List M.Tm) (v1 v2 : Value) (w : World) (u1 : Ts w v1 A) (u2 : Ts w v2 B) :
    Calls Tryz.prog 8 #[v1, v2] w fun e w' => e = .returned (.bool (decide (A = B))) ∧ Below w.heap.size w w' := by
  have hq := eqT
  obtain ⟨a1, c1, rfl, hp1, hp2, hp4⟩ := u1.form
  obtain ⟨a2, c2, rfl, hq1, hq2, hq4⟩ := u2.form
  have hm : A.length ≤ maxLen := by omega
  unfold maxLen at hm
  have U1 := hidq u1
  have U2 := hidq u2
  have HP4 := hidq hp4
  have HQ4 := hidq hq4
  clear hp4 hq4 u1 u2
  by_cases hl : A.length = B.length
  · obtain ⟨r, hr⟩ : ∃ r, decide (A = B) = r := ⟨_, rfl⟩
    have HR := hidq hr
    rw [hr]
    clear hr
    have EL := hidq hl
    rw [← hl]
    generalize hn : A.length = n at *
    have HN := hidq hn
    clear hn hl
    go_enter Tryz.func8, Tryz.ntmps8
    go_wp2
    go_loopw [13] (fun i wr => ∃ k : Nat, k ≤ n ∧ i = .int .i64 k ∧ Below w.heap.size w wr ∧ ∀ j, j < k → M.at_ A j = M.at_ B j) (fun i _ => n - (intOf i).toNat)
    case atStart => exact ⟨0, by omega, rfl, Below.refl _ _, fun j hj => by omega⟩
    case round =>
      obtain ⟨k, hk, rfl, hb, hall⟩ := hrel
      have HA := hidq hall
      have HB := hidq hb
      clear hall
      by_cases hlt : k < n
      · obtain ⟨b1, o1, rfl⟩ := HP4.out (by omega)
        obtain ⟨b2, o2, rfl⟩ := HQ4.out (by have := EL.out; omega)
        obtain ⟨x1, x2, x3⟩ := Ts.cell (U1.out.below hb) (k := k) (by rw [HN.out]; exact hlt)
        obtain ⟨y1, y2, y3⟩ := Ts.cell (U2.out.below hb) (k := k) (by rw [← EL.out]; exact hlt)
        clear hb
        obtain ⟨s, hs⟩ : ∃ s, M.at_ A k = s := ⟨_, rfl⟩
        obtain ⟨t, ht⟩ : ∃ t, M.at_ B k = t := ⟨_, rfl⟩
        rw [hs] at x1 x2 x3
        rw [ht] at y1 y2 y3
        by_cases he : s = t
        · have HE := hidq (hs.trans (he.trans ht.symm))
          clear hs ht
          subst he
          go_wp2
          go_quiet (fail)
          go_wp2
          go_roundw
          case rel => exact ⟨k + 1, by omega, by go_num, below_dq HB.out _, fun j hj => by
            rcases Nat.lt_or_ge j k with h | h
            · exact HA.out j h
            · obtain rfl : j = k := by omega
              exact HE.out⟩
          case measure => simp [intOf]; omega
        · obtain rfl : r = false := by
            rw [← HR.out]
            simp only [decide_eq_false_iff_not]
            intro e
            rw [e, ht] at hs
            exact he hs.symm
          clear hs ht
          go_wp2
          go_quiet (fail)
          go_wp2
          go_ret
          exact ⟨rfl, below_dq HB.out _⟩
      · obtain rfl : r = true := by
          rw [← HR.out]
          simp only [decide_eq_true_eq]
          refine List.ext_getElem? fun j => ?_
          by_cases hj : j < n
          · rw [at_get (by rw [HN.out]; exact hj), at_get (by rw [← EL.out]; exact hj), HA.out j (by omega)]
          · rw [List.getElem?_eq_none (by rw [HN.out]; omega), List.getElem?_eq_none (by have := EL.out; omega)]
        clear hb
        go_wp2
        go_ret
        exact ⟨rfl, HB.out⟩
  · have hb : decide (A = B) = false := by
      simp only [decide_eq_false_iff_not]
      intro e; exact hl (by rw [e])
    rw [hb]
    have hli : ¬ (A.length : Int) = (B.length : Int) := by omega
    go_enter Tryz.func8, Tryz.ntmps8
    go_wp2
    go_ret
    exact ⟨rfl, Below.refl _ _⟩
/-- a box of a term -/
def Bx3 (W : World) (B : Nat) (t : M.Tm) : Prop := W.heap[B]? = some (.cells #[.int .i64 t.1, .int .i64 t.2.1, .int .i64 t.2.2] 39 (0, 0))
theorem Bx3.lt {W : World} {B : Nat} {s : M.Tm} (h : Bx3 W B s) : B < W.heap.size := (Array.getElem?_eq_some_iff.1 h).1
theorem Bx3.cells {W : World} {B : Nat} {s : M.Tm} (h : Bx3 W B s) : W.cell? ⟨B, 0, none⟩ = some (.int .i64 s.1) ∧ W.cell? ⟨B, 1, none⟩ = some (.int .i64 s.2.1) ∧ W.cell? ⟨B, 2, none⟩ = some (.int .i64 s.2.2) := by
  have h' : W.heap[B]? = _ := h
  refine ⟨?_, ?_, ?_⟩ <;> simp [World.cell?, h']
set_option maxRecDepth 100000 in
theorem Bx3.new (W : World) (s : M.Tm) : Bx3 (W.alloc (.cells #[.int .i64 s.1, .int .i64 s.2.1, .int .i64 s.2.2] 39)) W.heap.size s := by
  show (W.heap.push _)[W.heap.size]? = _
  simp
theorem Bx3.alloc {W : World} {B : Nat} {s : M.Tm} (h : Bx3 W B s) (o : Obj) : Bx3 (W.alloc o) B s := (Below.heap_alloc _ _ _ h.lt).trans h
theorem Bx3.below {W W' : World} {B : Nat} {s : M.Tm} (h : Bx3 W B s) (hb : Below W.heap.size W W') : Bx3 W' B s := (hb.block B h.lt).trans h
theorem M.plcI_first {A : List M.Tm} {t : M.Tm} {k : Nat} (hk : k < A.length) (h : M.at_ A k = t) (h0 : ∀ j, j < k → M.at_ A j ≠ t) : M.plcI A t = k := by
  cases hp : M.plc t A with
  | none => exact absurd (h ▸ M.at_mem hk) (M.plc_none.1 hp)
  | some i =>
    obtain ⟨h1, h2, h3⟩ := M.plc_lt hp
    rw [M.plcI_some hp]
    rcases Nat.lt_trichotomy i k with h4 | h4 | h4
    · exact absurd h2 (h0 i h4)
    · rw [h4]
    · exact absurd h (h3 k h4)
theorem M.plc_no {A : List M.Tm} {t : M.Tm} (h0 : ∀ j, j < A.length → M.at_ A j ≠ t) : M.plc t A = none := by
  cases hp : M.plc t A with
  | none => rfl
  | some i =>
    obtain ⟨h1, h2, h3⟩ := M.plc_lt hp
    exact absurd h2 (h0 i h1)
set_option maxRecDepth 100000 in
set_option maxHeartbeats 1000000 in
theorem rplace_any (A : List M.Tm) (t : M.Tm) (v1 : Value) (w : World) (u1 : Ts w v1 A) :
    Calls Tryz.prog 44 #[v1, tmV t] w fun e w' => e = .returned (.int .i64 (M.plcI A t)) ∧ Below w.heap.size w w' := by
  have hq := eqT
  obtain ⟨a1, c1, rfl, hp1, hp2, hp4⟩ := u1.form
  have hm : A.length ≤ maxLen := by omega
  unfold maxLen at hm
  unfold tmV
  have X0 := Bx3.new w t
  have HX := hidq X0
  have U1 := hidq (u1.alloc (.cells #[.int .i64 t.1, .int .i64 t.2.1, .int .i64 t.2.2] 39))
  have HP4 := hidq hp4
  have HB := hidq (below_one (o := (.cells #[.int .i64 t.1, .int .i64 t.2.1, .int .i64 t.2.2] 39)) (Below.refl w.heap.size w))
  clear hp4 u1 X0
  obtain ⟨r, hr⟩ : ∃ r, M.plcI A t = r := ⟨_, rfl⟩
  have HR := hidq hr
  rw [hr]
  clear hr
  generalize hn : A.length = n at *
  have HN := hidq hn
  clear hn
  go_enter Tryz.func44, Tryz.ntmps44
  go_wp2
  generalize w.alloc (.cells #[.int .i64 t.1, .int .i64 t.2.1, .int .i64 t.2.2] 39) = W0 at *
  go_loopw [9] (fun i wr => ∃ k : Nat, k ≤ n ∧ i = .int .i64 k ∧ Below W0.heap.size W0 wr ∧ ∀ j, j < k → M.at_ A j ≠ t) (fun i _ => n - (intOf i).toNat)
  case atStart => exact ⟨0, by omega, rfl, Below.refl _ _, fun j hj => by omega⟩
  case round =>
    obtain ⟨k, hk, rfl, hb, hall⟩ := hrel
    have HA := hidq hall
    have HBr := hidq hb
    clear hall
    by_cases hlt : k < n
    · obtain ⟨b1, o1, rfl⟩ := HP4.out (by omega)
      obtain ⟨x1, x2, x3⟩ := Ts.cell (U1.out.below hb) (k := k) (by rw [HN.out]; exact hlt)
      have X1 := HX.out.below hb
      obtain ⟨y1, y2, y3⟩ := X1.cells
      have y4 := X1.lt
      clear hb X1
      obtain ⟨s, hs⟩ : ∃ s, M.at_ A k = s := ⟨_, rfl⟩
      rw [hs] at x1 x2 x3
      by_cases he : s = t
      · obtain rfl : r = k := by
          rw [← HR.out]
          exact M.plcI_first (by rw [HN.out]; exact hlt) (hs.trans he) HA.out
        clear hs
        subst he
        go_wp2
        go_ret
        exact ⟨rfl, below_trans HB.out (below_one HBr.out)⟩
      · have HS := hidq (show M.at_ A k ≠ t from fun e => he (hs.symm.trans e))
        clear hs
        go_wp2
        go_roundw
        case rel => exact ⟨k + 1, by omega, by go_num, below_one HBr.out, fun j hj => by
          rcases Nat.lt_or_ge j k with h | h
          · exact HA.out j h
          · obtain rfl : j = k := by omega
            exact HS.out⟩
        case measure => simp [intOf]; omega
    · obtain rfl : r = -1 := by
        rw [← HR.out]
        exact M.plcI_none (M.plc_no fun j hj => HA.out j (by rw [HN.out] at hj; omega))
      clear hb
      go_wp2
      go_ret
      exact ⟨rfl, below_trans HB.out HBr.out⟩
end Go.Proofs.YthmiekinjfaflaaGreat
namespace Go.Proofs.YthmiekinjfaflaaGreat
open Go.RowKit
set_option maxRecDepth 100000 in
theorem rmay_eq {t : M.Tm} {i : Int} {r : Bool} (h : M.mayB t i = r) (w : World) :
    Calls Tryz.prog 43 #[.agg #[.int .i64 t.1, .int .i64 t.2.1, .int .i64 t.2.2], .int .i64 i] w fun e w' => e = .returned (.bool r) ∧ Below w.heap.size w w' := by subst h; exact rmay_any t i w
set_option maxRecDepth 100000 in
theorem rplace_eq {A : List M.Tm} {t : M.Tm} {r : Int} (h : M.plcI A t = r) {v : Value} (w : World) (u : Ts w v A) :
    Calls Tryz.prog 44 #[v, .agg #[.int .i64 t.1, .int .i64 t.2.1, .int .i64 t.2.2]] w fun e w' => e = .returned (.int .i64 r) ∧ Below w.heap.size w w' := by subst h; exact rplace_any A t v w u
theorem Ts.take {W : World} {b off cap n : Nat} {L : List M.Tm} (h : Ts W (.slice (some ⟨b, off, none⟩) n cap) L) {k : Nat} (hk : k ≤ n) (hc : n ≤ cap) (h0 : 0 < cap) : Ts W (.slice (some ⟨b, off, none⟩) k cap) (L.take k) := by
  have := Sl.part h 0 k cap (Nat.zero_le _) hk (by omega) (Nat.le_refl _) h0
  simpa using this
set_option maxRecDepth 100000 in
set_option maxHeartbeats 4000000 in
theorem rcheck_any (A : List M.Tm) (v1 : Value) (w : World) (u1 : Ts w v1 A) :
    Calls Tryz.prog 23 #[v1] w fun e w' => e = .returned (.int .i64 (M.chkE A)) ∧ Below w.heap.size w w' := by
  obtain ⟨a1, c1, rfl, hp1, hp2, hp4⟩ := u1.form
  have hm : A.length ≤ maxLen := by omega
  unfold maxLen at hm
  have U1 := hidq u1
  have HP4 := hidq hp4
  clear hp4 u1
  obtain ⟨r, hr⟩ : ∃ r, M.chkE A = r := ⟨_, rfl⟩
  have HR := hidq hr
  rw [hr]
  clear hr
  by_cases h16 : A.length ≤ 65536
  · generalize hn : A.length = n at *
    have HN := hidq hn
    clear hn
    go_enter Tryz.func23, Tryz.ntmps23
    go_wp2
    go_loopw [10] (fun i wr => ∃ k : Nat, k ≤ n ∧ i = .int .i64 k ∧ Below w.heap.size w wr ∧ ∀ j, j < k → M.okAt A j) (fun i _ => n - (intOf i).toNat)
    case atStart => exact ⟨0, by omega, rfl, Below.refl _ _, fun j hj => by omega⟩
    case round =>
      obtain ⟨k, hk, rfl, hb, hall⟩ := hrel
      have HA := hidq hall
      have HB := hidq hb
      clear hall
      by_cases hlt : k < n
      · obtain ⟨b1, o1, rfl⟩ := HP4.out (by omega)
        obtain ⟨x1, x2, x3⟩ := Ts.cell (U1.out.below hb) (k := k) (by rw [HN.out]; exact hlt)
        clear hb
        obtain ⟨s, hs⟩ : ∃ s, M.at_ A k = s := ⟨_, rfl⟩
        rw [hs] at x1 x2 x3
        have HS := hidq hs
        clear hs
        have k0 : (0 : Int) ≤ k := by omega
        have k1 : (k : Int) ≤ c1 := by omega
        have k2 : ¬ c1 = 0 := by omega
        go_wp2
        have XB := Bx3.new wr s
        have hB1 := below_one (o := .cells #[.int .i64 s.1, .int .i64 s.2.1, .int .i64 s.2.2] 39) HB.out
        have U2 := U1.out.below hB1
        generalize wr.alloc (.cells #[.int .i64 s.1, .int .i64 s.2.1, .int .i64 s.2.2] 39) = W at *
        generalize wr.heap.size = Bs at *
        obtain ⟨G, HG, HF, HO, HW, ne⟩ := clq_of w W (fun X => Bx3 X Bs s ∧ Ts X (.slice (some ⟨b1, o1, none⟩) n c1) A) (fun _ _ h hb => ⟨h.1.below hb, h.2.below hb⟩) ⟨XB, U2⟩ hB1
        have h1 := fun c : Clq G => (HF.out c).1.cells
        clear XB hB1 U2 x1 x2 x3
        by_cases hM : M.mayB s k = true
        · have HM := hidq hM
          clear hM
          cases hp : M.plc s (A.take k) with
          | none =>
            have HP := hidq (M.plcI_none hp)
            have HK : Hid (M.okAt A k) := ⟨by rw [HS.out]; exact HM.out, by rw [HS.out]; exact hp⟩
            clear hp
            refine regionq (by kernel_rfl) (by kernel_rfl) HW.out ?_
            repeat (go_big_quiet_step (first | (go_at_call 43; exact quietq HG.out _ (rmay_eq HM.out _)) | (go_at_call 44; exact quietq HG.out _ (rplace_eq HP.out _ (Ts.take (HF.out _).2 hk hp1 (by omega))))))
            refine wpQuiet_nil ?_
            rintro _ ⟨c2, rfl⟩
            have hB2 := hidq (HO.out c2)
            go_wp2
            go_roundw
            case rel => exact ⟨k + 1, by omega, by go_num, hB2.out, fun j hj => by
              rcases Nat.lt_or_ge j k with h | h
              · exact HA.out j h
              · obtain rfl : j = k := by omega
                exact HK.out⟩
            case measure => simp [intOf]; omega
          | some i =>
            have HP := hidq (M.plcI_some hp)
            obtain rfl : r = 1 := by
              rw [← HR.out]
              exact if_neg fun h => by
                have := (h.2 k (by rw [HN.out]; exact hlt)).2
                rw [HS.out, hp] at this; cases this
            clear hp
            refine regionq (by kernel_rfl) (by kernel_rfl) HW.out ?_
            repeat (go_big_quiet_step (first | (go_at_call 43; exact quietq HG.out _ (rmay_eq HM.out _)) | (go_at_call 44; exact quietq HG.out _ (rplace_eq HP.out _ (Ts.take (HF.out _).2 hk hp1 (by omega))))))
            refine wpQuiet_nil ?_
            rintro _ ⟨c2, rfl⟩
            have hB2 := hidq (HO.out c2)
            go_wp2
            go_ret
            exact ⟨rfl, hB2.out⟩
        · have HM := hidq (show M.mayB s k = false by simpa using hM)
          obtain rfl : r = 1 := by
            rw [← HR.out]
            exact if_neg fun h => by
              have := (h.2 k (by rw [HN.out]; exact hlt)).1
              rw [HS.out] at this; exact hM this
          clear hM
          refine regionq (by kernel_rfl) (by kernel_rfl) HW.out ?_
          repeat (go_big_quiet_step (first | (go_at_call 43; exact quietq HG.out _ (rmay_eq HM.out _))))
          refine wpQuiet_nil ?_
          rintro _ ⟨c2, rfl⟩
          have hB2 := hidq (HO.out c2)
          go_wp2
          go_ret
          exact ⟨rfl, hB2.out⟩
      · obtain rfl : r = 0 := by
          rw [← HR.out]
          exact if_pos ⟨by rw [HN.out]; exact h16, fun j hj => HA.out j (by rw [HN.out] at hj; omega)⟩
        clear hb
        go_wp2
        go_ret
        exact ⟨rfl, HB.out⟩
  · obtain rfl : r = 1 := by
      rw [← HR.out]
      exact if_neg fun h => h16 h.1
    have h16i : (65536 : Int) < A.length := by omega
    go_enter Tryz.func23, Tryz.ntmps23
    go_wp2
    go_ret
    exact ⟨rfl, Below.refl _ _⟩
set_option maxRecDepth 100000 in
theorem rcheck_eq {A : List M.Tm} {r : Int} (h : M.chkE A = r) {v : Value} (w : World) (u : Ts w v A) :
    Calls Tryz.prog 23 #[v] w fun e w' => e = .returned (.int .i64 r) ∧ Below w.heap.size w w' := by subst h; exact rcheck_any A v w u
set_option maxRecDepth 100000 in
set_option maxHeartbeats 4000000 in
theorem rfind_any (A : List M.Tm) (t : M.Tm) (v1 : Value) (w : World) (u1 : Ts w v1 A) :
    Calls Tryz.prog 92 #[v1, .agg #[.int .i64 t.1, .int .i64 t.2.1, .int .i64 t.2.2]] w fun e w' => e = .returned (.tuple #[.int .i64 (M.findV A t), .int .i64 (M.findE A t)]) ∧ Below w.heap.size w w' := by
  obtain ⟨a1, c1, rfl, hp1, hp2, hp4⟩ := u1.form
  have HB := hidq (below_one (o := .cells #[.int .i64 t.1, .int .i64 t.2.1, .int .i64 t.2.2] 39) (Below.refl w.heap.size w))
  have X0 := hidq (Bx3.new w t)
  have U0 := hidq (u1.alloc (.cells #[.int .i64 t.1, .int .i64 t.2.1, .int .i64 t.2.2] 39))
  clear hp4 u1
  by_cases hc : M.Ok A
  · have HC : Hid (M.chkE A = 0) := if_pos hc
    by_cases hm : M.mayB t A.length = true
    · have HM := hidq hm
      cases hp : M.plc t A with
      | none =>
        have e1 : M.findE A t = 4 := by unfold M.findE; rw [if_pos ⟨hc, hm⟩, if_pos hp]
        have e2 : M.findV A t = 0 := by unfold M.findV; rw [e1]; rfl
        rw [e1, e2]
        have HP := hidq (M.plcI_none hp)
        clear hp hm hc e1 e2
        generalize A.length = n at *
        go_enter Tryz.func92, Tryz.ntmps92
        go_wp2_with (first | (go_at_call 23; refine (rcheck_eq HC.out _ U0.out).mono ?_; rintro r w1 ⟨rfl, hb1⟩; have U1 := hidq (U0.out.below hb1); have X1 := X0.out.below hb1; have c1 := X1.cells; have B1 := hidq (below_trans HB.out hb1); clear hb1) | (go_at_call 43; refine (rmay_eq HM.out _).mono ?_; rintro r w2 ⟨rfl, hb2⟩; have U2 := hidq (U1.out.below hb2); have X2 := X1.below hb2; have c2 := X2.cells; have B2 := hidq (below_trans B1.out hb2); clear hb2) | (go_at_call 44; refine (rplace_eq HP.out _ U2.out).mono ?_; rintro r w3 ⟨rfl, hb3⟩; have B3 := hidq (below_trans B2.out hb3); clear hb3))
        refine bodyPost_ret (v := .tuple #[.int .i64 _, .int .i64 _]) (by simp [results, Tryz.results92, go_sem]) rfl ⟨rfl, B3.out⟩
      | some i =>
        have e1 : M.findE A t = 0 := by unfold M.findE; rw [if_pos ⟨hc, hm⟩, if_neg (by rw [hp]; simp)]
        have e2 : M.findV A t = i := by unfold M.findV; rw [e1, if_pos rfl, M.plcI_some hp]
        rw [e1, e2]
        have HP := hidq (M.plcI_some hp)
        clear hp hm hc e1 e2
        generalize A.length = n at *
        go_enter Tryz.func92, Tryz.ntmps92
        go_wp2_with (first | (go_at_call 23; refine (rcheck_eq HC.out _ U0.out).mono ?_; rintro r w1 ⟨rfl, hb1⟩; have U1 := hidq (U0.out.below hb1); have X1 := X0.out.below hb1; have c1 := X1.cells; have B1 := hidq (below_trans HB.out hb1); clear hb1) | (go_at_call 43; refine (rmay_eq HM.out _).mono ?_; rintro r w2 ⟨rfl, hb2⟩; have U2 := hidq (U1.out.below hb2); have X2 := X1.below hb2; have c2 := X2.cells; have B2 := hidq (below_trans B1.out hb2); clear hb2) | (go_at_call 44; refine (rplace_eq HP.out _ U2.out).mono ?_; rintro r w3 ⟨rfl, hb3⟩; have B3 := hidq (below_trans B2.out hb3); clear hb3))
        refine bodyPost_ret (v := .tuple #[.int .i64 _, .int .i64 _]) (by simp [results, Tryz.results92, go_sem]) rfl ⟨rfl, B3.out⟩
    · have HM := hidq (show M.mayB t A.length = false by simpa using hm)
      have e1 : M.findE A t = 1 := by unfold M.findE; rw [if_neg fun h => hm h.2]
      have e2 : M.findV A t = 0 := by unfold M.findV; rw [e1]; rfl
      rw [e1, e2]
      clear hm hc e1 e2
      generalize A.length = n at *
      go_enter Tryz.func92, Tryz.ntmps92
      go_wp2_with (first | (go_at_call 23; refine (rcheck_eq HC.out _ U0.out).mono ?_; rintro r w1 ⟨rfl, hb1⟩; have U1 := hidq (U0.out.below hb1); have X1 := X0.out.below hb1; have c1 := X1.cells; have B1 := hidq (below_trans HB.out hb1); clear hb1) | (go_at_call 43; refine (rmay_eq HM.out _).mono ?_; rintro r w2 ⟨rfl, hb2⟩; have B2 := hidq (below_trans B1.out hb2); clear hb2))
      refine bodyPost_ret (v := .tuple #[.int .i64 _, .int .i64 _]) (by simp [results, Tryz.results92, go_sem]) rfl ⟨rfl, B2.out⟩
  · have HC : Hid (M.chkE A = 1) := if_neg hc
    have e1 : M.findE A t = 1 := by unfold M.findE; rw [if_neg fun h => hc h.1]
    have e2 : M.findV A t = 0 := by unfold M.findV; rw [e1]; rfl
    rw [e1, e2]
    clear hc e1 e2
    generalize A.length = n at *
    go_enter Tryz.func92, Tryz.ntmps92
    go_wp2_with (first | (go_at_call 23; refine (rcheck_eq HC.out _ U0.out).mono ?_; rintro r w1 ⟨rfl, hb1⟩; have B1 := hidq (below_trans HB.out hb1); clear hb1))
    refine bodyPost_ret (v := .tuple #[.int .i64 _, .int .i64 _]) (by simp [results, Tryz.results92, go_sem]) rfl ⟨rfl, B1.out⟩
/-- terms may be, and there is such a place -/
def M.thr (l : List M.Tm) (i : Int) : Bool := decide (M.Ok l) && M.ahd i l.length
end Go.Proofs.YthmiekinjfaflaaGreat
namespace Go.Proofs.YthmiekinjfaflaaGreat
open Go.RowKit
set_option maxRecDepth 100000 in
theorem rfind_eq {A : List M.Tm} {t : M.Tm} {x n : Int} (h : M.findV A t = x) (hn : M.findE A t = n) {v : Value} (w : World) (u : Ts w v A) :
    Calls Tryz.prog 92 #[v, .agg #[.int .i64 t.1, .int .i64 t.2.1, .int .i64 t.2.2]] w fun e w' => e = .returned (.tuple #[.int .i64 x, .int .i64 n]) ∧ Below w.heap.size w w' := by subst h; subst hn; exact rfind_any A t v w u
set_option maxRecDepth 100000 in
theorem Ts.one (W : World) (t : M.Tm) (h : M.fitT t) : Ts (W.alloc (.cells #[.int .i64 t.1, .int .i64 t.2.1, .int .i64 t.2.2] 39)) (.slice (some ⟨W.heap.size, 0, none⟩) 1 1) [t] := by
  refine ⟨_, _, rfl, by simp, by unfold maxLen; omega, fun x hx => by rw [List.mem_singleton] at hx; subst hx; exact h, fun _ => ⟨W.heap.size, 0, rfl, by simp, fun j hj => ?_⟩⟩
  obtain ⟨c0, c1, c2⟩ := (Bx3.new W t).cells
  have hj3 : j < 3 := hj
  match j, hj3 with
  | 0, _ => exact c0
  | 1, _ => exact c1
  | 2, _ => exact c2
theorem M.findE_cases (A : List M.Tm) (t : M.Tm) : (M.findE A t = 1 ∧ M.makeE A t = 1 ∧ M.makeL A t = [] ∧ M.makeV A t = 0) ∨
    (M.findE A t = 0 ∧ M.makeE A t = 0 ∧ M.makeL A t = A ∧ M.makeV A t = M.findV A t ∧ A.length ≤ 65536) ∨
    (M.findE A t = 4 ∧ A.length = 65536 ∧ M.makeE A t = 6 ∧ M.makeL A t = [] ∧ M.makeV A t = 0) ∨
    (M.findE A t = 4 ∧ A.length < 65536 ∧ M.makeE A t = 0 ∧ M.makeL A t = A ++ [t] ∧ M.makeV A t = A.length) := by
  by_cases h : M.Ok A ∧ M.mayB t A.length = true
  · by_cases hp : M.plc t A = none
    · have e : M.findE A t = 4 := by unfold M.findE; rw [if_pos h, if_pos hp]
      have hl := h.1.1
      by_cases h6 : A.length = 65536
      · have e2 : M.makeE A t = 6 := by unfold M.makeE; rw [if_pos e, if_pos h6]
        exact .inr (.inr (.inl ⟨e, h6, e2, by unfold M.makeL; rw [if_neg (by omega), if_neg (by omega)], by unfold M.makeV; rw [if_neg (by omega), if_neg (by omega)]⟩))
      · have e2 : M.makeE A t = 0 := by unfold M.makeE; rw [if_pos e, if_neg h6]
        exact .inr (.inr (.inr ⟨e, by omega, e2, by unfold M.makeL; rw [if_neg (by omega), if_pos e2], by unfold M.makeV; rw [if_neg (by omega), if_pos e2]⟩))
    · have e : M.findE A t = 0 := by unfold M.findE; rw [if_pos h, if_neg hp]
      exact .inr (.inl ⟨e, by unfold M.makeE; rw [if_neg (by omega), e], by unfold M.makeL; rw [if_pos e], by unfold M.makeV M.findV; rw [if_pos e, if_pos e], h.1.1⟩)
  · have e : M.findE A t = 1 := by unfold M.findE; rw [if_neg h]
    have e2 : M.makeE A t = 1 := by unfold M.makeE; rw [if_neg (by omega), e]
    exact .inl ⟨e, e2, by unfold M.makeL; rw [if_neg (by omega), if_neg (by omega)], by unfold M.makeV; rw [if_neg (by omega), if_neg (by omega)]⟩
theorem below_grownq {W w' : World} {row : Option Nat} (hg : W.grownBy w' row) (hr : row = none) : Below W.heap.size W w' := (Below.refl _ W).grown hg (Nat.le_refl _) (fun k hk => by rw [hr] at hk; cases hk)
set_option maxRecDepth 100000 in
set_option maxHeartbeats 4000000 in
theorem rmake_any (A : List M.Tm) (t : M.Tm) (ht : M.fitT t) (v1 : Value) (w : World) (u1 : Ts w v1 A) :
    Calls Tryz.prog 78 #[v1, .agg #[.int .i64 t.1, .int .i64 t.2.1, .int .i64 t.2.2]] w fun e w' => ∃ v', e = .returned (.tuple #[.int .i64 (M.makeV A t), v', .int .i64 (M.makeE A t)]) ∧ w'.ownsRow w.heap.size 39 3 v' (M.makeL A t).length (elTm.cells (M.makeL A t)) ∧ Below w.heap.size w w' := by
  obtain ⟨a1, c1, rfl, hp1, hp2, hp4⟩ := u1.form
  have HB := hidq (below_one (o := .cells #[.int .i64 t.1, .int .i64 t.2.1, .int .i64 t.2.2] 39) (Below.refl w.heap.size w))
  have X0 := hidq (Bx3.new w t)
  have U0 := hidq (u1.alloc (.cells #[.int .i64 t.1, .int .i64 t.2.1, .int .i64 t.2.2] 39))
  have HT := hidq ht
  clear hp4 u1 ht
  rcases M.findE_cases A t with ⟨e1, e2, e3, e4⟩ | ⟨e1, e2, e3, e4, e5⟩ | ⟨e1, e5, e2, e3, e4⟩ | ⟨e1, e5, e2, e3, e4⟩
  · rw [e2, e3, e4]
    have HE := hidq e1
    clear e1 e2 e3 e4
    go_enter Tryz.func78, Tryz.ntmps78
    go_wp2_with (first | (go_at_call 92; refine (rfind_eq rfl HE.out _ U0.out).mono ?_; rintro r w1 ⟨rfl, hb1⟩; have U1 := hidq (U0.out.below hb1); have X1 := X0.out.below hb1; have B1 := hidq (below_trans HB.out hb1); have cc := X1.cells; have lt1 := X1.lt; have sz1 := B1.out.size; clear hb1))
    go_ret3
    exact ⟨_, rfl, World.ownsRow_nil _ _ _ _, B1.out⟩
  · rw [e2, e3, e4]
    have HE := hidq e1
    clear e1 e2 e3 e4
    generalize hn : A.length = n at *
    go_enter Tryz.func78, Tryz.ntmps78
    go_wp2_with (first | (go_at_call 92; refine (rfind_eq rfl HE.out _ U0.out).mono ?_; rintro r w1 ⟨rfl, hb1⟩; have U1 := hidq (U0.out.below hb1); have X1 := X0.out.below hb1; have B1 := hidq (below_trans HB.out hb1); have cc := X1.cells; have lt1 := X1.lt; have sz1 := B1.out.size; clear hb1) | (at_builtin; refine wpList_append_sl (E := elTm) rfl _ _ rfl w.heap.size _ _ [] rfl (World.ownsRow_nil _ _ _ _) _ A rfl U1.out (by omega) sz1 ?_; intro v2 w2 hown2 hgrow2))
    go_ret3
    refine ⟨_, rfl, ?_, B1.out.grown hgrow2 sz1 (fun q hq => by cases hq)⟩
    rw [Nat.zero_add, List.nil_append, hn] at hown2
    exact hown2
  · rw [e2, e3, e4]
    have HE := hidq e1
    clear e1 e2 e3 e4
    generalize A.length = n at *
    have e5i : (n : Int) = 65536 := by omega
    clear e5
    go_enter Tryz.func78, Tryz.ntmps78
    go_wp2_with (first | (go_at_call 92; refine (rfind_eq rfl HE.out _ U0.out).mono ?_; rintro r w1 ⟨rfl, hb1⟩; have U1 := hidq (U0.out.below hb1); have X1 := X0.out.below hb1; have B1 := hidq (below_trans HB.out hb1); have cc := X1.cells; have lt1 := X1.lt; have sz1 := B1.out.size; clear hb1))
    go_ret3
    exact ⟨_, rfl, World.ownsRow_nil _ _ _ _, B1.out⟩
  · rw [e2, e3, e4, List.length_append, List.length_singleton]
    have HE := hidq e1
    clear e1 e2 e3 e4
    generalize hn : A.length = n at *
    have e5i : ¬ (n : Int) = 65536 := by omega
    go_enter Tryz.func78, Tryz.ntmps78
    go_wp2_with (first | (go_at_call 92; refine (rfind_eq rfl HE.out _ U0.out).mono ?_; rintro r w1 ⟨rfl, hb1⟩; have U1 := hidq (U0.out.below hb1); have X1 := X0.out.below hb1; have B1 := hidq (below_trans HB.out hb1); have cc := X1.cells; have lt1 := X1.lt; have sz1 := B1.out.size; clear hb1))
    have U1d := hidq U1.out.drew
    have X1d := hidq (show Bx3 w1.drew w.heap.size t from X1)
    have B1d := hidq (show Below w.heap.size w w1.drew from B1.out.drew)
    go_region_law (first | (refine step_append_sl (E := elTm) rfl _ _ rfl w.heap.size _ _ [] rfl (World.ownsRow_nil _ _ _ _) _ A rfl (by first | exact U1d.out | exact U1d.out.alloc _) (by omega) (by first | exact B1d.out.size | (have := B1d.out.size; simp at *; omega)) ?_; intro v7 w7 hown7 hgrow7; have hg7 := below_grownq hgrow7 rfl; have X7 : Bx3 w7 w.heap.size t := (by first | exact X1d.out.below hg7 | exact (X1d.out.alloc _).below hg7); have hb7 : Below w.heap.size w w7 := (by first | exact below_trans B1d.out hg7 | exact below_trans (below_one B1d.out) hg7); have c7 := X7.cells; have s7 := hb7.size) | (refine step_append_sl (E := elTm) rfl _ _ rfl w.heap.size _ _ ([] ++ A) rfl (by first | exact hown7 | exact hown7.alloc _) _ [t] rfl (by first | exact Ts.one _ _ HT.out | exact ((Ts.one _ _ HT.out).drew).below hg7) (by simp only [List.length_cons, List.length_nil]; omega) (by first | omega | (simp; omega)) ?_; intro v8 w8 hown8 hgrow8; have hb8 : Below w.heap.size w w8 := (by first | exact hb7.grown hgrow8 s7 (fun q hq => (hown7.lt q hq).1) | exact (below_one hb7).grown hgrow8 (by simp; omega) (fun q hq => (hown7.lt q hq).1))))
    all_goals go_wp2
    all_goals go_ret3
    all_goals refine ⟨_, rfl, ?_, hb8⟩
    all_goals rw [Nat.zero_add, List.nil_append, hn] at hown8
    all_goals exact hown8
end Go.Proofs.YthmiekinjfaflaaGreat
