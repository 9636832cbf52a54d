/-
  '==' of terms; what the document's own Same and place come to at every input. Conditions: the slices hold terms.
-/
import Derived.Test.YthkkclhjpgkhaaaT1
import Derived.Test.YthkkclhjpgkhaaaQ3
namespace Go.Proofs.Ythkkclhjpgkhaaa
open Go.RowKit
theorem Try.fieldsT : (Try.prog.fieldsOf 41) = #[⟨"Kind", 3, 0, false, "", "", 0⟩, ⟨"A", 3, 1, false, "", "", 8⟩, ⟨"B", 3, 2, false, "", "", 16⟩] := by kernel_rfl
theorem Try.heldT : Try.prog.stoodInHeld 41 = false := by kernel_rfl
theorem Try.structT : Try.prog.underlying 41 = some (.struct (Try.prog.fieldsOf 41)) := by kernel_rfl
/-- '==' of two terms -/
theorem eqT (a b c x y z : Int) (w : World) : (Op.equalIn 10000 41 (.agg #[.int .i64 a, .int .i64 b, .int .i64 c]) (.agg #[.int .i64 x, .int .i64 y, .int .i64 z])).run Try.prog w = .ok (decide (((a, b, c) : M.Tm) = (x, y, z))) w := by
  rw [run_equalIn_struct w 9999 _ _ _ Try.structT Try.heldT, Try.fieldsT]
  simp [Op.eqFields, part, go_sem]
  by_cases h1 : a = x <;> by_cases h2 : b = y <;> by_cases h3 : c = z <;> simp [h1, h2, h3]
/-- a box of a term -/
def Bx3 (W : World) (B : Nat) (t : M.Tm) : Prop := W.heap[B]? = some (.cells #[.int .i64 t.1, .int .i64 t.2.1, .int .i64 t.2.2] 41 (0, 0))
theorem Bx3.lt {W : World} {B : Nat} {s : M.Tm} (h : Bx3 W B s) : B < W.heap.size := (Array.getElem?_eq_some_iff.1 h).1
theorem Bx3.cells {W : World} {B : Nat} {s : M.Tm} (h : Bx3 W B s) : W.cell? ⟨B, 0, none⟩ = some (.int .i64 s.1) ∧ W.cell? ⟨B, 1, none⟩ = some (.int .i64 s.2.1) ∧ W.cell? ⟨B, 2, none⟩ = some (.int .i64 s.2.2) := by
  have h' : W.heap[B]? = _ := h
  refine ⟨?_, ?_, ?_⟩ <;> simp [World.cell?, h']
theorem Bx3.new (W : World) (s : M.Tm) : Bx3 (W.alloc (.cells #[.int .i64 s.1, .int .i64 s.2.1, .int .i64 s.2.2] 41)) W.heap.size s := by
  show (W.heap.push _)[W.heap.size]? = _
  simp
theorem Bx3.alloc {W : World} {B : Nat} {s : M.Tm} (h : Bx3 W B s) (o : Obj) : Bx3 (W.alloc o) B s := (Below.heap_alloc _ _ _ h.lt).trans h
theorem Bx3.below {W W' : World} {B : Nat} {s : M.Tm} (h : Bx3 W B s) (hb : Below W.heap.size W W') : Bx3 W' B s := (hb.block B h.lt).trans h
theorem M.plcI_first {A : List M.Tm} {t : M.Tm} {k : Nat} (hk : k < A.length) (h : M.at_ A k = t) (h0 : ∀ j, j < k → M.at_ A j ≠ t) : M.plcI A t = k := by
  cases hp : M.plc t A with
  | none => exact absurd (h ▸ M.at_mem hk) (M.plc_none.1 hp)
  | some i =>
    obtain ⟨h1, h2, h3⟩ := M.plc_lt hp
    rw [M.plcI_some hp]
    rcases Nat.lt_trichotomy i k with h4 | h4 | h4
    · exact absurd h2 (h0 i h4)
    · rw [h4]
    · exact absurd h (h3 k h4)
theorem M.plc_no {A : List M.Tm} {t : M.Tm} (h0 : ∀ j, j < A.length → M.at_ A j ≠ t) : M.plc t A = none := by
  cases hp : M.plc t A with
  | none => rfl
  | some i =>
    obtain ⟨h1, h2, h3⟩ := M.plc_lt hp
    exact absurd h2 (h0 i h1)
set_option maxRecDepth 100000 in
set_option maxHeartbeats 1000000 in
theorem rplace_any (A : List M.Tm) (t : M.Tm) (v1 : Value) (w : World) (u1 : Ts w v1 A) :
    Calls Try.prog 63 #[v1, tmV t] w fun e w' => e = .returned (.int .i64 (M.plcI A t)) ∧ Below w.heap.size w w' := by
  have hq := eqT
  obtain ⟨a1, c1, rfl, hp1, hp2, hp4⟩ := u1.form
  have hm : A.length ≤ maxLen := by omega
  unfold maxLen at hm
  unfold tmV
  have X0 := Bx3.new w t
  have HX := hidq X0
  have U1 := hidq (u1.alloc (.cells #[.int .i64 t.1, .int .i64 t.2.1, .int .i64 t.2.2] 41))
  have HP4 := hidq hp4
  have HB := hidq (below_one (o := (.cells #[.int .i64 t.1, .int .i64 t.2.1, .int .i64 t.2.2] 41)) (Below.refl w.heap.size w))
  clear hp4 u1 X0
  obtain ⟨r, hr⟩ : ∃ r, M.plcI A t = r := ⟨_, rfl⟩
  have HR := hidq hr
  rw [hr]
  clear hr
  generalize hn : A.length = n at *
  have HN := hidq hn
  clear hn
  go_enter Try.func63, Try.ntmps63
  go_wp2
  generalize w.alloc (.cells #[.int .i64 t.1, .int .i64 t.2.1, .int .i64 t.2.2] 41) = W0 at *
  go_loopw [9] (fun i wr => ∃ k : Nat, k ≤ n ∧ i = .int .i64 k ∧ Below W0.heap.size W0 wr ∧ ∀ j, j < k → M.at_ A j ≠ t) (fun i _ => n - (intOf i).toNat)
  case atStart => exact ⟨0, by omega, rfl, Below.refl _ _, fun j hj => by omega⟩
  case round =>
    obtain ⟨k, hk, rfl, hb, hall⟩ := hrel
    have HA := hidq hall
    have HBr := hidq hb
    clear hall
    by_cases hlt : k < n
    · obtain ⟨b1, o1, rfl⟩ := HP4.out (by omega)
      obtain ⟨x1, x2, x3⟩ := Ts.cell (U1.out.below hb) (k := k) (by rw [HN.out]; exact hlt)
      have X1 := HX.out.below hb
      obtain ⟨y1, y2, y3⟩ := X1.cells
      have y4 := X1.lt
      clear hb X1
      obtain ⟨s, hs⟩ : ∃ s, M.at_ A k = s := ⟨_, rfl⟩
      rw [hs] at x1 x2 x3
      by_cases he : s = t
      · obtain rfl : r = k := by
          rw [← HR.out]
          exact M.plcI_first (by rw [HN.out]; exact hlt) (hs.trans he) HA.out
        clear hs
        subst he
        go_wp2
        go_ret
        exact ⟨rfl, below_trans HB.out (below_one HBr.out)⟩
      · have HS := hidq (show M.at_ A k ≠ t from fun e => he (hs.symm.trans e))
        clear hs
        go_wp2
        go_roundw
        case rel => exact ⟨k + 1, by omega, by go_num, below_one HBr.out, fun j hj => by
          rcases Nat.lt_or_ge j k with h | h
          · exact HA.out j h
          · obtain rfl : j = k := by omega
            exact HS.out⟩
        case measure => simp [intOf]; omega
    · obtain rfl : r = -1 := by
        rw [← HR.out]
        exact M.plcI_none (M.plc_no fun j hj => HA.out j (by rw [HN.out] at hj; omega))
      clear hb
      go_wp2
      go_ret
      exact ⟨rfl, below_trans HB.out HBr.out⟩
end Go.Proofs.Ythkkclhjpgkhaaa
