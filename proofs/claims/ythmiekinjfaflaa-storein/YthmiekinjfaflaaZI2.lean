/-
  What whole.Bound, and the document's own Cover, May and Bound, answer at every input; the law's own example. Conditions: the slice holds numbers, they fit their kind.
-/
import Derived.Test.YthmiekinjfaflaaZI1
import Derived.Test.YthmiekinjfaflaaZO9
namespace Go.Proofs.Ythmiekinjfaflaa
open Go.RowKit
namespace M
/-- there may be a set of so many leaves -/
def cntB (h many : Int) : Bool := htB h && decide (0 ≤ many) && decide (many ≤ 1024) && decide (many ≤ p2 h)
def bdE (h many : Int) : Int := if cntB h many then 0 else 1
def bdV (h many : Int) : Int := if cntB h many then (if many = 0 then 1 else many * (h - dep many)) else 0
theorem cnt_of {h many : Int} (hc : cntB h many = true) : 1 ≤ h ∧ h ≤ 32 ∧ 0 ≤ many ∧ many ≤ 1024 ∧ many ≤ p2 h := by
  unfold cntB at hc
  simp only [Bool.and_eq_true, decide_eq_true_eq] at hc
  obtain ⟨⟨⟨h1, h2⟩, h3⟩, h4⟩ := hc
  exact ⟨(ht_of h1).1, (ht_of h1).2, h2, h3, h4⟩
theorem cnt_mk {h many : Int} (h1 : 1 ≤ h) (h2 : h ≤ 32) (h3 : 0 ≤ many) (h4 : many ≤ 1024) (h5 : many ≤ p2 h) : cntB h many = true := by
  unfold cntB
  rw [ht_mk h1 h2, decide_eq_true h3, decide_eq_true h4, decide_eq_true h5]; rfl
theorem dep_many {h many : Int} (h1 : 1 ≤ h) (h2 : h ≤ 32) (h3 : 1 ≤ many) (h5 : many ≤ p2 h) : 0 ≤ dep many ∧ dep many ≤ h := by
  have hp := p2_pos h
  exact ⟨dep_nonneg _, dep_le_of h3 (by omega) (by omega)⟩
theorem mul_bd {a b : Int} (ha : 0 ≤ a) (ha2 : a ≤ 1024) (hb : 0 ≤ b) (hb2 : b ≤ 32) : 0 ≤ a * b ∧ a * b ≤ 32768 := by
  have h1 := Int.mul_nonneg ha hb
  have h2 := Int.mul_le_mul ha2 hb2 hb (by decide)
  omega
end M
end Go.Proofs.Ythmiekinjfaflaa
namespace Go.Proofs.Ythmiekinjfaflaa
open Go.RowKit
theorem M.live10a : M.cvL 2 [1] = [(3, 0), (4, 0)] := by decide +kernel
end Go.Proofs.Ythmiekinjfaflaa
