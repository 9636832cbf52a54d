/-
  What the document's own number comes to. Condition: from 0 on, to 2 ^ 21.
-/
import Derived.Test.YthmiekinjfaflaaGreatZT2
import Derived.Laws.IdiomStrings
import Derived.Lib.BufferRead
namespace Go.Proofs.YthmiekinjfaflaaGreat
open Go.RowKit
/-- a text as the program holds it -/
def M.str (L : List UInt8) : ByteArray := ⟨L.toArray⟩
theorem M.str_append (a b : List UInt8) : M.str a ++ M.str b = M.str (a ++ b) := by
  apply ByteArray.ext
  rw [ByteArray.data_append]
  simp [M.str]
theorem M.str_size (a : List UInt8) : (M.str a).size = a.length := by simp [M.str, ByteArray.size]
theorem M.str_inj {a b : List UInt8} : M.str a = M.str b ↔ a = b := by
  constructor
  · intro h
    have := congrArg (fun x => x.data.toList) h
    simpa [M.str] using this
  · rintro rfl; rfl
theorem cell_one (W : World) (x : Value) (T : TypeId) : (W.alloc (.cells #[x] T)).cell? ⟨W.heap.size, 0, none⟩ = some x := by
  have h : (W.alloc (.cells #[x] T)).heap[W.heap.size]? = some (.cells #[x] T (0, 0)) := heap_alloc_new W _
  unfold World.cell?
  rw [h]
  rfl
theorem wrap8 {x : Int} (h0 : 0 ≤ x) (h1 : x ≤ 255) : IntKind.u8.wrap x = x := by
  simp [IntKind.wrap, IntKind.bits, IntKind.signed]; omega
theorem wrap64 {x : Int} (h0 : -9223372036854775808 ≤ x) (h1 : x ≤ 9223372036854775807) : IntKind.i64.wrap x = x := by
  simp [IntKind.wrap, IntKind.bits, IntKind.signed]; omega
end Go.Proofs.YthmiekinjfaflaaGreat
namespace Go.Proofs.YthmiekinjfaflaaGreat
open Go.RowKit
theorem M.size_lit (L : List UInt8) : (⟨L.toArray⟩ : ByteArray).size = L.length := M.str_size L
/-- the text of a term with one part -/
theorem M.txt_len1 {A : List M.Tm} {i : Nat} (h : M.mayB (M.at_ A i) i = true) (h1 : (M.at_ A i).1 = 2 ∨ (M.at_ A i).1 = 3 ∨ (M.at_ A i).1 = 4) : (M.txt A i).length = (M.txt A (M.at_ A i).2.1.toNat).length + 3 := by
  rw [M.txt_one h (by omega) (by omega)]
  rcases h1 with h | h | h <;> rw [h] <;> simp [M.head_]
theorem M.txt_len2 {A : List M.Tm} {i : Nat} (h : M.mayB (M.at_ A i) i = true) (h5 : (M.at_ A i).1 = 5) : (M.txt A i).length = (M.txt A (M.at_ A i).2.1.toNat).length + (M.txt A (M.at_ A i).2.2.toNat).length + 4 := by
  rw [M.txt_two h h5]
  simp; omega
/-- Text -/
def M.textE (A : List M.Tm) (i : Int) : Int := if M.thr A i = true then (if (M.txt A i.toNat).length ≤ 65536 then 0 else 3) else 1
def M.textV (A : List M.Tm) (i : Int) : List UInt8 := if M.textE A i = 0 then M.txt A i.toNat else []
theorem M.thr_iff {A : List M.Tm} {i : Int} : M.thr A i = true ↔ M.Ok A ∧ 0 ≤ i ∧ i < A.length := by
  unfold M.thr; rw [Bool.and_eq_true, decide_eq_true_eq, M.ahd_iff]
end Go.Proofs.YthmiekinjfaflaaGreat
namespace Go.Proofs.YthmiekinjfaflaaGreat
open Go.RowKit
theorem elInt_cells (L : List Int) : elInt.cells L = L.map (fun x => .int .i64 x) := by
  induction L with
  | nil => rfl
  | cons x L ih =>
    show [Value.int .i64 x] ++ elInt.cells L = _
    rw [ih]; rfl
set_option maxRecDepth 100000 in
theorem own_lit1 (W : World) (base g : Nat) (hg : g = W.heap.size) (hb : base ≤ W.heap.size) (a : Int) : (W.alloc (.cells #[.int .i64 a] 3)).ownsRow base 3 1 (.slice (some ⟨g, 0, none⟩) 1 1) 1 (elInt.cells [a]) :=
  ⟨rfl, .inr ⟨W.heap.size, 1, _, by rw [hg], hb, heap_alloc_new W _, Nat.le_refl _, by unfold maxLen; omega, rfl, rfl⟩⟩
set_option maxRecDepth 100000 in
theorem own_lit2 (W : World) (base g : Nat) (hg : g = W.heap.size) (hb : base ≤ W.heap.size) (a b : Int) : (W.alloc (.cells #[.int .i64 a, .int .i64 b] 3)).ownsRow base 3 1 (.slice (some ⟨g, 0, none⟩) 2 2) 2 (elInt.cells [a, b]) :=
  ⟨rfl, .inr ⟨W.heap.size, 2, _, by rw [hg], hb, heap_alloc_new W _, Nat.le_refl _, by unfold maxLen; omega, rfl, rfl⟩⟩
theorem M.parts_0 {t : M.Tm} (h2 : ¬ t.1 = 2) (h3 : ¬ t.1 = 3) (h4 : ¬ t.1 = 4) (h5 : ¬ t.1 = 5) : M.parts t = [] := by unfold M.parts; rw [if_neg (by omega), if_neg h5]
theorem M.parts_1 {t : M.Tm} (h : t.1 = 2 ∨ t.1 = 3 ∨ t.1 = 4) : M.parts t = [t.2.1] := by unfold M.parts; rw [if_pos h]
theorem M.parts_2 {t : M.Tm} (h : t.1 = 5) : M.parts t = [t.2.1, t.2.2] := by unfold M.parts; rw [if_neg (by omega), if_pos h]
/-- the slice value v holds the whole numbers L -/
abbrev Is (W : World) (v : Value) (L : List Int) : Prop := Sl elInt W v L
theorem Is.cell {W : World} {b off n cap : Nat} {L : List Int} (h : Is W (.slice (some ⟨b, off, none⟩) n cap) L) {k : Nat} (hk : k < L.length) : W.cell? ⟨b, off + k, none⟩ = some (.int .i64 (L[k]?.getD 0)) := by
  have := Sl.at h (k := k) (x := L[k]) (List.getElem?_eq_getElem hk) (i := 0) (by decide)
  rw [List.getElem?_eq_getElem hk]
  simpa [elInt] using this
end Go.Proofs.YthmiekinjfaflaaGreat
