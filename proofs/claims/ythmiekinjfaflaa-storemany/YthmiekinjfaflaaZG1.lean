/-
  What the document's own answers Is, Check, In, Has and Same of layer 2 come to. Conditions: the slices hold numbers that fit.
-/
import Derived.Test.YthmiekinjfaflaaZF4
namespace Go.Proofs.Ythmiekinjfaflaa
open Go.RowKit
/-- the one ahead of place k, or less than all -/
def M.prev (L : List Int) (k : Nat) : Int := if k = 0 then -1 else L[k - 1]?.getD 0
theorem M.prev_succ (L : List Int) (k : Nat) : M.prev L (k + 1) = L[k]?.getD 0 := by unfold M.prev; rw [if_neg (by omega)]; rfl
theorem M.isB_ht {h i : Int} (hh : M.htB h = true) : M.isB h i = decide (i ≤ M.p2 h - 1) := by
  unfold M.isB; rw [hh, Bool.true_and]
  by_cases hx : i < M.p2 h
  · rw [decide_eq_true hx, decide_eq_true (by omega)]
  · rw [decide_eq_false hx, decide_eq_false (by omega)]
end Go.Proofs.Ythmiekinjfaflaa
namespace Go.Proofs.Ythmiekinjfaflaa
open Go.RowKit
theorem Us.one (w : World) (x : Int) (e : TypeId) (h0 : 0 ≤ x) (h1 : x ≤ 18446744073709551615) : Us (w.alloc (.cells #[.int .u64 x] e)) (.slice (some ⟨w.heap.size, 0, none⟩) 1 1) [x] := by
  refine ⟨_, _, rfl, by simp, by unfold maxLen; omega, by simp; omega, fun _ => ⟨w.heap.size, 0, rfl, by simp, fun j hj => ?_⟩⟩
  match j, hj with
  | 0, _ => rw [Nat.zero_add, cell_at]; rfl
theorem filter_take {L : List Int} (f : Int → Bool) (k : Nat) (hk : k < L.length) : (L.take (k + 1)).filter f = (L.take k).filter f ++ (if f (L[k]?.getD 0) then [L[k]?.getD 0] else []) := by
  rw [take_getD k hk, List.filter_append]
  congr 1
  by_cases h : f (L[k]?.getD 0) = true
  · rw [if_pos h, List.filter_cons_of_pos h]; rfl
  · rw [if_neg h, List.filter_cons_of_neg h]; rfl
theorem filter_take_le {L : List Int} (f : Int → Bool) (k : Nat) : ((L.take k).filter f).length ≤ L.length :=
  Nat.le_trans (List.length_filter_le _ _) (by rw [List.length_take]; omega)
theorem append3_left (A : List Int) (i : Int) (B : List Int) (y : Int) : A ++ [i] ++ (B ++ [y]) = (A ++ [i] ++ B) ++ [y] := by simp
end Go.Proofs.Ythmiekinjfaflaa
namespace Go.Proofs.Ythmiekinjfaflaa
open Go.RowKit
end Go.Proofs.Ythmiekinjfaflaa
