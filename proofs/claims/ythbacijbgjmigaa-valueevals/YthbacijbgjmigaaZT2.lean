/-
  '==' of terms; what the document's own Same and place come to at every input. Conditions: the slices hold terms.
-/
import Derived.Test.YthbacijbgjmigaaZQ3
import Derived.Test.YthbacijbgjmigaaZT1
namespace Go.Proofs.Ythbacijbgjmigaa
open Go.RowKit
theorem Try.fieldsT : (Try.prog.fieldsOf 45) = #[⟨"Kind", 3, 0, false, "", "", 0⟩, ⟨"A", 3, 1, false, "", "", 8⟩, ⟨"B", 3, 2, false, "", "", 16⟩] := by kernel_rfl
theorem Try.heldT : Try.prog.stoodInHeld 45 = false := by kernel_rfl
theorem Try.structT : Try.prog.underlying 45 = some (.struct (Try.prog.fieldsOf 45)) := by kernel_rfl
/-- '==' of two terms -/
theorem eqT (a b c x y z : Int) (w : World) : (Op.equalIn 10000 45 (.agg #[.int .i64 a, .int .i64 b, .int .i64 c]) (.agg #[.int .i64 x, .int .i64 y, .int .i64 z])).run Try.prog w = .ok (decide (((a, b, c) : M.Tm) = (x, y, z))) w := by
  rw [run_equalIn_struct w 9999 _ _ _ Try.structT Try.heldT, Try.fieldsT]
  simp [Op.eqFields, part, go_sem]
  by_cases h1 : a = x <;> by_cases h2 : b = y <;> by_cases h3 : c = z <;> simp [h1, h2, h3]
/-- a box of a term -/
def Bx3 (W : World) (B : Nat) (t : M.Tm) : Prop := W.heap[B]? = some (.cells #[.int .i64 t.1, .int .i64 t.2.1, .int .i64 t.2.2] 45 (0, 0))
theorem Bx3.lt {W : World} {B : Nat} {s : M.Tm} (h : Bx3 W B s) : B < W.heap.size := (Array.getElem?_eq_some_iff.1 h).1
theorem Bx3.cells {W : World} {B : Nat} {s : M.Tm} (h : Bx3 W B s) : W.cell? ⟨B, 0, none⟩ = some (.int .i64 s.1) ∧ W.cell? ⟨B, 1, none⟩ = some (.int .i64 s.2.1) ∧ W.cell? ⟨B, 2, none⟩ = some (.int .i64 s.2.2) := by
  have h' : W.heap[B]? = _ := h
  refine ⟨?_, ?_, ?_⟩ <;> simp [World.cell?, h']
theorem Bx3.new (W : World) (s : M.Tm) : Bx3 (W.alloc (.cells #[.int .i64 s.1, .int .i64 s.2.1, .int .i64 s.2.2] 45)) W.heap.size s := by
  show (W.heap.push _)[W.heap.size]? = _
  simp
theorem Bx3.alloc {W : World} {B : Nat} {s : M.Tm} (h : Bx3 W B s) (o : Obj) : Bx3 (W.alloc o) B s := (Below.heap_alloc _ _ _ h.lt).trans h
theorem Bx3.below {W W' : World} {B : Nat} {s : M.Tm} (h : Bx3 W B s) (hb : Below W.heap.size W W') : Bx3 W' B s := (hb.block B h.lt).trans h
theorem M.plcI_first {A : List M.Tm} {t : M.Tm} {k : Nat} (hk : k < A.length) (h : M.at_ A k = t) (h0 : ∀ j, j < k → M.at_ A j ≠ t) : M.plcI A t = k := by
  cases hp : M.plc t A with
  | none => exact absurd (h ▸ M.at_mem hk) (M.plc_none.1 hp)
  | some i =>
    obtain ⟨h1, h2, h3⟩ := M.plc_lt hp
    rw [M.plcI_some hp]
    rcases Nat.lt_trichotomy i k with h4 | h4 | h4
    · exact absurd h2 (h0 i h4)
    · rw [h4]
    · exact absurd h (h3 k h4)
theorem M.plc_no {A : List M.Tm} {t : M.Tm} (h0 : ∀ j, j < A.length → M.at_ A j ≠ t) : M.plc t A = none := by
  cases hp : M.plc t A with
  | none => rfl
  | some i =>
    obtain ⟨h1, h2, h3⟩ := M.plc_lt hp
    exact absurd h2 (h0 i h1)
set_option maxRecDepth 100000 in
set_option maxHeartbeats 1000000 in
theorem rplace_any (A : List M.Tm) (t : M.Tm) (v1 : Value) (w : World) (u1 : Ts w v1 A) :
    Calls Try.prog 57 #[v1, tmV t] w fun e w' => e = .returned (.int .i64 (M.plcI A t)) ∧ Below w.heap.size w w' := by
  have hq := eqT
  obtain ⟨a1, c1, rfl, hp1, hp2, hp4⟩ := u1.form
  have hm : A.length ≤ maxLen := by omega
  unfold maxLen at hm
  unfold tmV
  have X0 := Bx3.new w t
  have HX := hidq X0
  have U1 := hidq (u1.alloc (.cells #[.int .i64 t.1, .int .i64 t.2.1, .int .i64 t.2.2] 45))
  have HP4 := hidq hp4
  have HB := hidq (below_one (o := (.cells #[.int .i64 t.1, .int .i64 t.2.1, .int .i64 t.2.2] 45)) (Below.refl w.heap.size w))
  clear hp4 u1 X0
  obtain ⟨r, hr⟩ : ∃ r, M.plcI A t = r := ⟨_, rfl⟩
  have HR := hidq hr
  rw [hr]
  clear hr
  generalize hn : A.length = n at *
  have HN := hidq hn
  clear hn
  go_enter Try.func57, Try.ntmps57
  go_wp2
  generalize w.alloc (.cells #[.int .i64 t.1, .int .i64 t.2.1, .int .i64 t.2.2] 45) = W0 at *
  go_loopw [9] (fun i wr => ∃ k : Nat, k ≤ n ∧ i = .int .i64 k ∧ Below W0.heap.size W0 wr ∧ ∀ j, j < k → M.at_ A j ≠ t) (fun i _ => n - (intOf i).toNat)
  case atStart => exact ⟨0, by omega, rfl, Below.refl _ _, fun j hj => by omega⟩
  case round =>
    obtain ⟨k, hk, rfl, hb, hall⟩ := hrel
    have HA := hidq hall
    have HBr := hidq hb
    clear hall
    by_cases hlt : k < n
    · obtain ⟨b1, o1, rfl⟩ := HP4.out (by omega)
      obtain ⟨x1, x2, x3⟩ := Ts.cell (U1.out.below hb) (k := k) (by rw [HN.out]; exact hlt)
      have X1 := HX.out.below hb
      obtain ⟨y1, y2, y3⟩ := X1.cells
      have y4 := X1.lt
      clear hb X1
      obtain ⟨s, hs⟩ : ∃ s, M.at_ A k = s := ⟨_, rfl⟩
      rw [hs] at x1 x2 x3
      by_cases he : s = t
      · obtain rfl : r = k := by
          rw [← HR.out]
          exact M.plcI_first (by rw [HN.out]; exact hlt) (hs.trans he) HA.out
        clear hs
        subst he
        go_wp2
        go_ret
        exact ⟨rfl, below_trans HB.out (below_one HBr.out)⟩
      · have HS := hidq (show M.at_ A k ≠ t from fun e => he (hs.symm.trans e))
        clear hs
        go_wp2
        go_roundw
        case rel => exact ⟨k + 1, by omega, by go_num, below_one HBr.out, fun j hj => by
          rcases Nat.lt_or_ge j k with h | h
          · exact HA.out j h
          · obtain rfl : j = k := by omega
            exact HS.out⟩
        case measure => simp [intOf]; omega
    · obtain rfl : r = -1 := by
        rw [← HR.out]
        exact M.plcI_none (M.plc_no fun j hj => HA.out j (by rw [HN.out] at hj; omega))
      clear hb
      go_wp2
      go_ret
      exact ⟨rfl, below_trans HB.out HBr.out⟩
end Go.Proofs.Ythbacijbgjmigaa
namespace Go.Proofs.Ythbacijbgjmigaa
open Go.RowKit
theorem rmay_eq {t : M.Tm} {i : Int} {r : Bool} (h : M.mayB t i = r) (w : World) :
    Calls Try.prog 56 #[.agg #[.int .i64 t.1, .int .i64 t.2.1, .int .i64 t.2.2], .int .i64 i] w fun e w' => e = .returned (.bool r) ∧ Below w.heap.size w w' := by subst h; exact rmay_any t i w
theorem rplace_eq {A : List M.Tm} {t : M.Tm} {r : Int} (h : M.plcI A t = r) {v : Value} (w : World) (u : Ts w v A) :
    Calls Try.prog 57 #[v, .agg #[.int .i64 t.1, .int .i64 t.2.1, .int .i64 t.2.2]] w fun e w' => e = .returned (.int .i64 r) ∧ Below w.heap.size w w' := by subst h; exact rplace_any A t v w u
theorem Ts.take {W : World} {b off cap n : Nat} {L : List M.Tm} (h : Ts W (.slice (some ⟨b, off, none⟩) n cap) L) {k : Nat} (hk : k ≤ n) (hc : n ≤ cap) (h0 : 0 < cap) : Ts W (.slice (some ⟨b, off, none⟩) k cap) (L.take k) := by
  have := Sl.part h 0 k cap (Nat.zero_le _) hk (by omega) (Nat.le_refl _) h0
  simpa using this
set_option maxRecDepth 100000 in
set_option maxHeartbeats 4000000 in
theorem rcheck_any (A : List M.Tm) (v1 : Value) (w : World) (u1 : Ts w v1 A) :
    Calls Try.prog 46 #[v1] w fun e w' => e = .returned (.int .i64 (M.chkE A)) ∧ Below w.heap.size w w' := by
  obtain ⟨a1, c1, rfl, hp1, hp2, hp4⟩ := u1.form
  have hm : A.length ≤ maxLen := by omega
  unfold maxLen at hm
  have U1 := hidq u1
  have HP4 := hidq hp4
  clear hp4 u1
  obtain ⟨r, hr⟩ : ∃ r, M.chkE A = r := ⟨_, rfl⟩
  have HR := hidq hr
  rw [hr]
  clear hr
  by_cases h16 : A.length ≤ 65536
  · generalize hn : A.length = n at *
    have HN := hidq hn
    clear hn
    go_enter Try.func46, Try.ntmps46
    go_wp2
    go_loopw [10] (fun i wr => ∃ k : Nat, k ≤ n ∧ i = .int .i64 k ∧ Below w.heap.size w wr ∧ ∀ j, j < k → M.okAt A j) (fun i _ => n - (intOf i).toNat)
    case atStart => exact ⟨0, by omega, rfl, Below.refl _ _, fun j hj => by omega⟩
    case round =>
      obtain ⟨k, hk, rfl, hb, hall⟩ := hrel
      have HA := hidq hall
      have HB := hidq hb
      clear hall
      by_cases hlt : k < n
      · obtain ⟨b1, o1, rfl⟩ := HP4.out (by omega)
        obtain ⟨x1, x2, x3⟩ := Ts.cell (U1.out.below hb) (k := k) (by rw [HN.out]; exact hlt)
        clear hb
        obtain ⟨s, hs⟩ : ∃ s, M.at_ A k = s := ⟨_, rfl⟩
        rw [hs] at x1 x2 x3
        have HS := hidq hs
        clear hs
        have k0 : (0 : Int) ≤ k := by omega
        have k1 : (k : Int) ≤ c1 := by omega
        have k2 : ¬ c1 = 0 := by omega
        go_wp2
        have XB := Bx3.new wr s
        have hB1 := below_one (o := .cells #[.int .i64 s.1, .int .i64 s.2.1, .int .i64 s.2.2] 45) HB.out
        have U2 := U1.out.below hB1
        generalize wr.alloc (.cells #[.int .i64 s.1, .int .i64 s.2.1, .int .i64 s.2.2] 45) = W at *
        generalize wr.heap.size = Bs at *
        obtain ⟨G, HG, HF, HO, HW, ne⟩ := clq_of w W (fun X => Bx3 X Bs s ∧ Ts X (.slice (some ⟨b1, o1, none⟩) n c1) A) (fun _ _ h hb => ⟨h.1.below hb, h.2.below hb⟩) ⟨XB, U2⟩ hB1
        have h1 := fun c : Clq G => (HF.out c).1.cells
        clear XB hB1 U2 x1 x2 x3
        by_cases hM : M.mayB s k = true
        · have HM := hidq hM
          clear hM
          cases hp : M.plc s (A.take k) with
          | none =>
            have HP := hidq (M.plcI_none hp)
            have HK : Hid (M.okAt A k) := ⟨by rw [HS.out]; exact HM.out, by rw [HS.out]; exact hp⟩
            clear hp
            refine regionq (by kernel_rfl) (by kernel_rfl) HW.out ?_
            repeat (go_big_quiet_step (first | (go_at_call 56; exact quietq HG.out _ (rmay_eq HM.out _)) | (go_at_call 57; exact quietq HG.out _ (rplace_eq HP.out _ (Ts.take (HF.out _).2 hk hp1 (by omega))))))
            refine wpQuiet_nil ?_
            rintro _ ⟨c2, rfl⟩
            have hB2 := hidq (HO.out c2)
            go_wp2
            go_roundw
            case rel => exact ⟨k + 1, by omega, by go_num, hB2.out, fun j hj => by
              rcases Nat.lt_or_ge j k with h | h
              · exact HA.out j h
              · obtain rfl : j = k := by omega
                exact HK.out⟩
            case measure => simp [intOf]; omega
          | some i =>
            have HP := hidq (M.plcI_some hp)
            obtain rfl : r = 1 := by
              rw [← HR.out]
              exact if_neg fun h => by
                have := (h.2 k (by rw [HN.out]; exact hlt)).2
                rw [HS.out, hp] at this; cases this
            clear hp
            refine regionq (by kernel_rfl) (by kernel_rfl) HW.out ?_
            repeat (go_big_quiet_step (first | (go_at_call 56; exact quietq HG.out _ (rmay_eq HM.out _)) | (go_at_call 57; exact quietq HG.out _ (rplace_eq HP.out _ (Ts.take (HF.out _).2 hk hp1 (by omega))))))
            refine wpQuiet_nil ?_
            rintro _ ⟨c2, rfl⟩
            have hB2 := hidq (HO.out c2)
            go_wp2
            go_ret
            exact ⟨rfl, hB2.out⟩
        · have HM := hidq (show M.mayB s k = false by simpa using hM)
          obtain rfl : r = 1 := by
            rw [← HR.out]
            exact if_neg fun h => by
              have := (h.2 k (by rw [HN.out]; exact hlt)).1
              rw [HS.out] at this; exact hM this
          clear hM
          refine regionq (by kernel_rfl) (by kernel_rfl) HW.out ?_
          repeat (go_big_quiet_step (first | (go_at_call 56; exact quietq HG.out _ (rmay_eq HM.out _))))
          refine wpQuiet_nil ?_
          rintro _ ⟨c2, rfl⟩
          have hB2 := hidq (HO.out c2)
          go_wp2
          go_ret
          exact ⟨rfl, hB2.out⟩
      · obtain rfl : r = 0 := by
          rw [← HR.out]
          exact if_pos ⟨by rw [HN.out]; exact h16, fun j hj => HA.out j (by rw [HN.out] at hj; omega)⟩
        clear hb
        go_wp2
        go_ret
        exact ⟨rfl, HB.out⟩
  · obtain rfl : r = 1 := by
      rw [← HR.out]
      exact if_neg fun h => h16 h.1
    have h16i : (65536 : Int) < A.length := by omega
    go_enter Try.func46, Try.ntmps46
    go_wp2
    go_ret
    exact ⟨rfl, Below.refl _ _⟩
theorem rcheck_eq {A : List M.Tm} {r : Int} (h : M.chkE A = r) {v : Value} (w : World) (u : Ts w v A) :
    Calls Try.prog 46 #[v] w fun e w' => e = .returned (.int .i64 r) ∧ Below w.heap.size w w' := by subst h; exact rcheck_any A v w u
/-- terms may be, and there is such a place -/
def M.thr (l : List M.Tm) (i : Int) : Bool := decide (M.Ok l) && M.ahd i l.length
theorem rthere_any (A : List M.Tm) (i : Int) (v1 : Value) (w : World) (u1 : Ts w v1 A) :
    Calls Try.prog 34 #[v1, .int .i64 i] w fun e w' => e = .returned (.bool (M.thr A i)) ∧ Below w.heap.size w w' := by
  obtain ⟨a1, c1, rfl, hp1, hp2, hp4⟩ := u1.form
  have U0 := hidq u1
  clear hp4 u1
  unfold M.thr M.ahd
  by_cases hc : M.Ok A
  · have HC : Hid (M.chkE A = 0) := if_pos hc
    rw [decide_eq_true hc]
    clear hc
    generalize A.length = n at *
    by_cases h0 : 0 ≤ i <;> by_cases h1 : i < n <;> (first | (exfalso; omega) | (go_enter Try.func34, Try.ntmps34; go_wp2_with (first | (go_at_call 46; refine (rcheck_eq HC.out _ U0.out).mono ?_; rintro r w1 ⟨rfl, hb1⟩)); go_ret; exact ⟨by simp [h0, h1], hb1⟩))
  · have HC : Hid (M.chkE A = 1) := if_neg hc
    rw [decide_eq_false hc]
    clear hc
    generalize A.length = n at *
    go_enter Try.func34, Try.ntmps34
    go_wp2_with (first | (go_at_call 46; refine (rcheck_eq HC.out _ U0.out).mono ?_; rintro r w1 ⟨rfl, hb1⟩))
    go_ret
    exact ⟨rfl, hb1⟩
end Go.Proofs.Ythbacijbgjmigaa
namespace Go.Proofs.Ythbacijbgjmigaa
open Go.RowKit
theorem Ts.one (W : World) (t : M.Tm) (h : M.fitT t) : Ts (W.alloc (.cells #[.int .i64 t.1, .int .i64 t.2.1, .int .i64 t.2.2] 45)) (.slice (some ⟨W.heap.size, 0, none⟩) 1 1) [t] := by
  refine ⟨_, _, rfl, by simp, by unfold maxLen; omega, fun x hx => by rw [List.mem_singleton] at hx; subst hx; exact h, fun _ => ⟨W.heap.size, 0, rfl, by simp, fun j hj => ?_⟩⟩
  obtain ⟨c0, c1, c2⟩ := (Bx3.new W t).cells
  have hj3 : j < 3 := hj
  match j, hj3 with
  | 0, _ => exact c0
  | 1, _ => exact c1
  | 2, _ => exact c2
theorem M.findE_cases (A : List M.Tm) (t : M.Tm) : (M.findE A t = 1 ∧ M.makeE A t = 1 ∧ M.makeL A t = [] ∧ M.makeV A t = 0) ∨
    (M.findE A t = 0 ∧ M.makeE A t = 0 ∧ M.makeL A t = A ∧ M.makeV A t = M.findV A t ∧ A.length ≤ 65536) ∨
    (M.findE A t = 4 ∧ A.length = 65536 ∧ M.makeE A t = 6 ∧ M.makeL A t = [] ∧ M.makeV A t = 0) ∨
    (M.findE A t = 4 ∧ A.length < 65536 ∧ M.makeE A t = 0 ∧ M.makeL A t = A ++ [t] ∧ M.makeV A t = A.length) := by
  by_cases h : M.Ok A ∧ M.mayB t A.length = true
  · by_cases hp : M.plc t A = none
    · have e : M.findE A t = 4 := by unfold M.findE; rw [if_pos h, if_pos hp]
      have hl := h.1.1
      by_cases h6 : A.length = 65536
      · have e2 : M.makeE A t = 6 := by unfold M.makeE; rw [if_pos e, if_pos h6]
        exact .inr (.inr (.inl ⟨e, h6, e2, by unfold M.makeL; rw [if_neg (by omega), if_neg (by omega)], by unfold M.makeV; rw [if_neg (by omega), if_neg (by omega)]⟩))
      · have e2 : M.makeE A t = 0 := by unfold M.makeE; rw [if_pos e, if_neg h6]
        exact .inr (.inr (.inr ⟨e, by omega, e2, by unfold M.makeL; rw [if_neg (by omega), if_pos e2], by unfold M.makeV; rw [if_neg (by omega), if_pos e2]⟩))
    · have e : M.findE A t = 0 := by unfold M.findE; rw [if_pos h, if_neg hp]
      exact .inr (.inl ⟨e, by unfold M.makeE; rw [if_neg (by omega), e], by unfold M.makeL; rw [if_pos e], by unfold M.makeV M.findV; rw [if_pos e, if_pos e], h.1.1⟩)
  · have e : M.findE A t = 1 := by unfold M.findE; rw [if_neg h]
    have e2 : M.makeE A t = 1 := by unfold M.makeE; rw [if_neg (by omega), e]
    exact .inl ⟨e, e2, by unfold M.makeL; rw [if_neg (by omega), if_neg (by omega)], by unfold M.makeV; rw [if_neg (by omega), if_neg (by omega)]⟩
theorem below_grownq {W w' : World} {row : Option Nat} (hg : W.grownBy w' row) (hr : row = none) : Below W.heap.size W w' := (Below.refl _ W).grown hg (Nat.le_refl _) (fun k hk => by rw [hr] at hk; cases hk)
end Go.Proofs.Ythbacijbgjmigaa
