/-
  '==' of terms; what the document's own Same and place come to at every input. Conditions: the slices hold terms.
-/
import Derived.Test.YthmiekinjfaflaaZA6
import Derived.Test.YthmiekinjfaflaaZQ1
import Derived.Laws.IdiomStrings
import Derived.Lib.BufferRead
namespace Go.Proofs.Ythmiekinjfaflaa
open Go.RowKit
set_option maxRecDepth 100000 in
theorem Try.fieldsT : (Try.prog.fieldsOf 43) = #[⟨"Kind", 3, 0, false, "", "", 0⟩, ⟨"A", 3, 1, false, "", "", 8⟩, ⟨"B", 3, 2, false, "", "", 16⟩] := by kernel_rfl
set_option maxRecDepth 100000 in
theorem Try.heldT : Try.prog.stoodInHeld 43 = false := by kernel_rfl
set_option maxRecDepth 100000 in
theorem Try.structT : Try.prog.underlying 43 = some (.struct (Try.prog.fieldsOf 43)) := by kernel_rfl
set_option maxRecDepth 100000 in
/-- '==' of two terms -/
theorem eqT (a b c x y z : Int) (w : World) : (Op.equalIn 10000 43 (.agg #[.int .i64 a, .int .i64 b, .int .i64 c]) (.agg #[.int .i64 x, .int .i64 y, .int .i64 z])).run Try.prog w = .ok (decide (((a, b, c) : M.Tm) = (x, y, z))) w := by
  rw [run_equalIn_struct w 9999 _ _ _ Try.structT Try.heldT, Try.fieldsT]
  simp [Op.eqFields, part, go_sem]
  by_cases h1 : a = x <;> by_cases h2 : b = y <;> by_cases h3 : c = z <;> simp [h1, h2, h3]
/-- a box of a term -/
def Bx3 (W : World) (B : Nat) (t : M.Tm) : Prop := W.heap[B]? = some (.cells #[.int .i64 t.1, .int .i64 t.2.1, .int .i64 t.2.2] 43 (0, 0))
theorem Bx3.lt {W : World} {B : Nat} {s : M.Tm} (h : Bx3 W B s) : B < W.heap.size := (Array.getElem?_eq_some_iff.1 h).1
theorem Bx3.cells {W : World} {B : Nat} {s : M.Tm} (h : Bx3 W B s) : W.cell? ⟨B, 0, none⟩ = some (.int .i64 s.1) ∧ W.cell? ⟨B, 1, none⟩ = some (.int .i64 s.2.1) ∧ W.cell? ⟨B, 2, none⟩ = some (.int .i64 s.2.2) := by
  have h' : W.heap[B]? = _ := h
  refine ⟨?_, ?_, ?_⟩ <;> simp [World.cell?, h']
set_option maxRecDepth 100000 in
theorem Bx3.new (W : World) (s : M.Tm) : Bx3 (W.alloc (.cells #[.int .i64 s.1, .int .i64 s.2.1, .int .i64 s.2.2] 43)) W.heap.size s := by
  show (W.heap.push _)[W.heap.size]? = _
  simp
theorem Bx3.alloc {W : World} {B : Nat} {s : M.Tm} (h : Bx3 W B s) (o : Obj) : Bx3 (W.alloc o) B s := (Below.heap_alloc _ _ _ h.lt).trans h
theorem Bx3.below {W W' : World} {B : Nat} {s : M.Tm} (h : Bx3 W B s) (hb : Below W.heap.size W W') : Bx3 W' B s := (hb.block B h.lt).trans h
theorem M.plcI_first {A : List M.Tm} {t : M.Tm} {k : Nat} (hk : k < A.length) (h : M.at_ A k = t) (h0 : ∀ j, j < k → M.at_ A j ≠ t) : M.plcI A t = k := by
  cases hp : M.plc t A with
  | none => exact absurd (h ▸ M.at_mem hk) (M.plc_none.1 hp)
  | some i =>
    obtain ⟨h1, h2, h3⟩ := M.plc_lt hp
    rw [M.plcI_some hp]
    rcases Nat.lt_trichotomy i k with h4 | h4 | h4
    · exact absurd h2 (h0 i h4)
    · rw [h4]
    · exact absurd h (h3 k h4)
theorem M.plc_no {A : List M.Tm} {t : M.Tm} (h0 : ∀ j, j < A.length → M.at_ A j ≠ t) : M.plc t A = none := by
  cases hp : M.plc t A with
  | none => rfl
  | some i =>
    obtain ⟨h1, h2, h3⟩ := M.plc_lt hp
    exact absurd h2 (h0 i h1)
end Go.Proofs.Ythmiekinjfaflaa
namespace Go.Proofs.Ythmiekinjfaflaa
open Go.RowKit
theorem Ts.take {W : World} {b off cap n : Nat} {L : List M.Tm} (h : Ts W (.slice (some ⟨b, off, none⟩) n cap) L) {k : Nat} (hk : k ≤ n) (hc : n ≤ cap) (h0 : 0 < cap) : Ts W (.slice (some ⟨b, off, none⟩) k cap) (L.take k) := by
  have := Sl.part h 0 k cap (Nat.zero_le _) hk (by omega) (Nat.le_refl _) h0
  simpa using this
/-- terms may be, and there is such a place -/
def M.thr (l : List M.Tm) (i : Int) : Bool := decide (M.Ok l) && M.ahd i l.length
end Go.Proofs.Ythmiekinjfaflaa
namespace Go.Proofs.Ythmiekinjfaflaa
open Go.RowKit
set_option maxRecDepth 100000 in
theorem Ts.one (W : World) (t : M.Tm) (h : M.fitT t) : Ts (W.alloc (.cells #[.int .i64 t.1, .int .i64 t.2.1, .int .i64 t.2.2] 43)) (.slice (some ⟨W.heap.size, 0, none⟩) 1 1) [t] := by
  refine ⟨_, _, rfl, by simp, by unfold maxLen; omega, fun x hx => by rw [List.mem_singleton] at hx; subst hx; exact h, fun _ => ⟨W.heap.size, 0, rfl, by simp, fun j hj => ?_⟩⟩
  obtain ⟨c0, c1, c2⟩ := (Bx3.new W t).cells
  have hj3 : j < 3 := hj
  match j, hj3 with
  | 0, _ => exact c0
  | 1, _ => exact c1
  | 2, _ => exact c2
theorem M.findE_cases (A : List M.Tm) (t : M.Tm) : (M.findE A t = 1 ∧ M.makeE A t = 1 ∧ M.makeL A t = [] ∧ M.makeV A t = 0) ∨
    (M.findE A t = 0 ∧ M.makeE A t = 0 ∧ M.makeL A t = A ∧ M.makeV A t = M.findV A t ∧ A.length ≤ 65536) ∨
    (M.findE A t = 4 ∧ A.length = 65536 ∧ M.makeE A t = 6 ∧ M.makeL A t = [] ∧ M.makeV A t = 0) ∨
    (M.findE A t = 4 ∧ A.length < 65536 ∧ M.makeE A t = 0 ∧ M.makeL A t = A ++ [t] ∧ M.makeV A t = A.length) := by
  by_cases h : M.Ok A ∧ M.mayB t A.length = true
  · by_cases hp : M.plc t A = none
    · have e : M.findE A t = 4 := by unfold M.findE; rw [if_pos h, if_pos hp]
      have hl := h.1.1
      by_cases h6 : A.length = 65536
      · have e2 : M.makeE A t = 6 := by unfold M.makeE; rw [if_pos e, if_pos h6]
        exact .inr (.inr (.inl ⟨e, h6, e2, by unfold M.makeL; rw [if_neg (by omega), if_neg (by omega)], by unfold M.makeV; rw [if_neg (by omega), if_neg (by omega)]⟩))
      · have e2 : M.makeE A t = 0 := by unfold M.makeE; rw [if_pos e, if_neg h6]
        exact .inr (.inr (.inr ⟨e, by omega, e2, by unfold M.makeL; rw [if_neg (by omega), if_pos e2], by unfold M.makeV; rw [if_neg (by omega), if_pos e2]⟩))
    · have e : M.findE A t = 0 := by unfold M.findE; rw [if_pos h, if_neg hp]
      exact .inr (.inl ⟨e, by unfold M.makeE; rw [if_neg (by omega), e], by unfold M.makeL; rw [if_pos e], by unfold M.makeV M.findV; rw [if_pos e, if_pos e], h.1.1⟩)
  · have e : M.findE A t = 1 := by unfold M.findE; rw [if_neg h]
    have e2 : M.makeE A t = 1 := by unfold M.makeE; rw [if_neg (by omega), e]
    exact .inl ⟨e, e2, by unfold M.makeL; rw [if_neg (by omega), if_neg (by omega)], by unfold M.makeV; rw [if_neg (by omega), if_neg (by omega)]⟩
theorem below_grownq {W w' : World} {row : Option Nat} (hg : W.grownBy w' row) (hr : row = none) : Below W.heap.size W w' := (Below.refl _ W).grown hg (Nat.le_refl _) (fun k hk => by rw [hr] at hk; cases hk)
end Go.Proofs.Ythmiekinjfaflaa
namespace Go.Proofs.Ythmiekinjfaflaa
open Go.RowKit
/-- a text as the program holds it -/
def M.str (L : List UInt8) : ByteArray := ⟨L.toArray⟩
theorem M.str_append (a b : List UInt8) : M.str a ++ M.str b = M.str (a ++ b) := by
  apply ByteArray.ext
  rw [ByteArray.data_append]
  simp [M.str]
theorem M.str_size (a : List UInt8) : (M.str a).size = a.length := by simp [M.str, ByteArray.size]
theorem M.str_inj {a b : List UInt8} : M.str a = M.str b ↔ a = b := by
  constructor
  · intro h
    have := congrArg (fun x => x.data.toList) h
    simpa [M.str] using this
  · rintro rfl; rfl
theorem cell_one (W : World) (x : Value) (T : TypeId) : (W.alloc (.cells #[x] T)).cell? ⟨W.heap.size, 0, none⟩ = some x := by
  have h : (W.alloc (.cells #[x] T)).heap[W.heap.size]? = some (.cells #[x] T (0, 0)) := heap_alloc_new W _
  unfold World.cell?
  rw [h]
  rfl
theorem wrap8 {x : Int} (h0 : 0 ≤ x) (h1 : x ≤ 255) : IntKind.u8.wrap x = x := by
  simp [IntKind.wrap, IntKind.bits, IntKind.signed]; omega
theorem wrap64 {x : Int} (h0 : -9223372036854775808 ≤ x) (h1 : x ≤ 9223372036854775807) : IntKind.i64.wrap x = x := by
  simp [IntKind.wrap, IntKind.bits, IntKind.signed]; omega
end Go.Proofs.Ythmiekinjfaflaa
namespace Go.Proofs.Ythmiekinjfaflaa
open Go.RowKit
theorem M.size_lit (L : List UInt8) : (⟨L.toArray⟩ : ByteArray).size = L.length := M.str_size L
/-- the text of a term with one part -/
theorem M.txt_len1 {A : List M.Tm} {i : Nat} (h : M.mayB (M.at_ A i) i = true) (h1 : (M.at_ A i).1 = 2 ∨ (M.at_ A i).1 = 3 ∨ (M.at_ A i).1 = 4) : (M.txt A i).length = (M.txt A (M.at_ A i).2.1.toNat).length + 3 := by
  rw [M.txt_one h (by omega) (by omega)]
  rcases h1 with h | h | h <;> rw [h] <;> simp [M.head_]
theorem M.txt_len2 {A : List M.Tm} {i : Nat} (h : M.mayB (M.at_ A i) i = true) (h5 : (M.at_ A i).1 = 5) : (M.txt A i).length = (M.txt A (M.at_ A i).2.1.toNat).length + (M.txt A (M.at_ A i).2.2.toNat).length + 4 := by
  rw [M.txt_two h h5]
  simp; omega
/-- Text -/
def M.textE (A : List M.Tm) (i : Int) : Int := if M.thr A i = true then (if (M.txt A i.toNat).length ≤ 65536 then 0 else 3) else 1
def M.textV (A : List M.Tm) (i : Int) : List UInt8 := if M.textE A i = 0 then M.txt A i.toNat else []
theorem M.thr_iff {A : List M.Tm} {i : Int} : M.thr A i = true ↔ M.Ok A ∧ 0 ≤ i ∧ i < A.length := by
  unfold M.thr; rw [Bool.and_eq_true, decide_eq_true_eq, M.ahd_iff]
end Go.Proofs.Ythmiekinjfaflaa
namespace Go.Proofs.Ythmiekinjfaflaa
open Go.RowKit
theorem elInt_cells (L : List Int) : elInt.cells L = L.map (fun x => .int .i64 x) := by
  induction L with
  | nil => rfl
  | cons x L ih =>
    show [Value.int .i64 x] ++ elInt.cells L = _
    rw [ih]; rfl
set_option maxRecDepth 100000 in
theorem own_lit1 (W : World) (base g : Nat) (hg : g = W.heap.size) (hb : base ≤ W.heap.size) (a : Int) : (W.alloc (.cells #[.int .i64 a] 3)).ownsRow base 3 1 (.slice (some ⟨g, 0, none⟩) 1 1) 1 (elInt.cells [a]) :=
  ⟨rfl, .inr ⟨W.heap.size, 1, _, by rw [hg], hb, heap_alloc_new W _, Nat.le_refl _, by unfold maxLen; omega, rfl, rfl⟩⟩
set_option maxRecDepth 100000 in
theorem own_lit2 (W : World) (base g : Nat) (hg : g = W.heap.size) (hb : base ≤ W.heap.size) (a b : Int) : (W.alloc (.cells #[.int .i64 a, .int .i64 b] 3)).ownsRow base 3 1 (.slice (some ⟨g, 0, none⟩) 2 2) 2 (elInt.cells [a, b]) :=
  ⟨rfl, .inr ⟨W.heap.size, 2, _, by rw [hg], hb, heap_alloc_new W _, Nat.le_refl _, by unfold maxLen; omega, rfl, rfl⟩⟩
theorem M.parts_0 {t : M.Tm} (h2 : ¬ t.1 = 2) (h3 : ¬ t.1 = 3) (h4 : ¬ t.1 = 4) (h5 : ¬ t.1 = 5) : M.parts t = [] := by unfold M.parts; rw [if_neg (by omega), if_neg h5]
theorem M.parts_1 {t : M.Tm} (h : t.1 = 2 ∨ t.1 = 3 ∨ t.1 = 4) : M.parts t = [t.2.1] := by unfold M.parts; rw [if_pos h]
theorem M.parts_2 {t : M.Tm} (h : t.1 = 5) : M.parts t = [t.2.1, t.2.2] := by unfold M.parts; rw [if_neg (by omega), if_pos h]
/-- the slice value v holds the whole numbers L -/
abbrev Is (W : World) (v : Value) (L : List Int) : Prop := Sl elInt W v L
theorem Is.cell {W : World} {b off n cap : Nat} {L : List Int} (h : Is W (.slice (some ⟨b, off, none⟩) n cap) L) {k : Nat} (hk : k < L.length) : W.cell? ⟨b, off + k, none⟩ = some (.int .i64 (L[k]?.getD 0)) := by
  have := Sl.at h (k := k) (x := L[k]) (List.getElem?_eq_getElem hk) (i := 0) (by decide)
  rw [List.getElem?_eq_getElem hk]
  simpa [elInt] using this
end Go.Proofs.Ythmiekinjfaflaa
