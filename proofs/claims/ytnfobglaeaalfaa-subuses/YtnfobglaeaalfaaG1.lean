/-
  What the document's own answers Is, Check, In, Has and Same of layer 2 come to. Conditions: the slices hold numbers that fit.
-/
import Derived.Test.YtnfobglaeaalfaaF8
namespace Go.Proofs.Ytnfobglaeaalfaa
open Go.RowKit
/-- the one ahead of place k, or less than all -/
def M.prev (L : List Int) (k : Nat) : Int := if k = 0 then -1 else L[k - 1]?.getD 0
theorem M.prev_succ (L : List Int) (k : Nat) : M.prev L (k + 1) = L[k]?.getD 0 := by unfold M.prev; rw [if_neg (by omega)]; rfl
theorem M.isB_ht {h i : Int} (hh : M.htB h = true) : M.isB h i = decide (i ≤ M.p2 h - 1) := by
  unfold M.isB; rw [hh, Bool.true_and]
  by_cases hx : i < M.p2 h
  · rw [decide_eq_true hx, decide_eq_true (by omega)]
  · rw [decide_eq_false hx, decide_eq_false (by omega)]
end Go.Proofs.Ytnfobglaeaalfaa
