/-
  What the document's own text and Text come to. Conditions: the slice holds terms that may be; there is room for no more than MaxText.
-/
import Derived.Test.YthkkclhjpgkhaaaT5
namespace Go.Proofs.Ythkkclhjpgkhaaa
open Go.RowKit
theorem M.size_lit (L : List UInt8) : (⟨L.toArray⟩ : ByteArray).size = L.length := M.str_size L
/-- the text of a term with one part -/
theorem M.txt_len1 {A : List M.Tm} {i : Nat} (h : M.mayB (M.at_ A i) i = true) (h1 : (M.at_ A i).1 = 2 ∨ (M.at_ A i).1 = 3 ∨ (M.at_ A i).1 = 4) : (M.txt A i).length = (M.txt A (M.at_ A i).2.1.toNat).length + 3 := by
  rw [M.txt_one h (by omega) (by omega)]
  rcases h1 with h | h | h <;> rw [h] <;> simp [M.head_]
theorem M.txt_len2 {A : List M.Tm} {i : Nat} (h : M.mayB (M.at_ A i) i = true) (h5 : (M.at_ A i).1 = 5) : (M.txt A i).length = (M.txt A (M.at_ A i).2.1.toNat).length + (M.txt A (M.at_ A i).2.2.toNat).length + 4 := by
  rw [M.txt_two h h5]
  simp; omega
/-- Text -/
def M.textE (A : List M.Tm) (i : Int) : Int := if M.thr A i = true then (if (M.txt A i.toNat).length ≤ 65536 then 0 else 3) else 1
def M.textV (A : List M.Tm) (i : Int) : List UInt8 := if M.textE A i = 0 then M.txt A i.toNat else []
theorem M.thr_iff {A : List M.Tm} {i : Int} : M.thr A i = true ↔ M.Ok A ∧ 0 ≤ i ∧ i < A.length := by
  unfold M.thr; rw [Bool.and_eq_true, decide_eq_true_eq, M.ahd_iff]
end Go.Proofs.Ythkkclhjpgkhaaa
