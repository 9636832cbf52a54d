/-
  What whole.Cover answers at every input: each subset of what hangs, without a J. Conditions: the slice holds numbers, they fit their kind.
-/
import Derived.Test.YthmiekinjfaflaaZO11
import Derived.Test.YthmiekinjfaflaaZON
import Derived.Test.YthmiekinjfaflaaZTR
namespace Go.Proofs.Ythmiekinjfaflaa
open Go.RowKit
namespace M
/-- each node as a subset without a J -/
def bareL (X : List Int) : List (Int × Int) := X.map fun n => (n, 0)
def cvL (h : Int) (L : List Int) : List (Int × Int) := bareL (thV h L)
theorem bare_length (X : List Int) : (bareL X).length = X.length := by unfold bareL; simp
theorem bare_at (X : List Int) (k : Nat) (hk : k < X.length) : (bareL X)[k]? = some (X[k]?.getD 0, 0) := by
  unfold bareL; rw [List.getElem?_map, List.getElem?_eq_getElem hk]; rfl
theorem bare_take (X : List Int) (k : Nat) (hk : k < X.length) : (bareL X).take (k + 1) = (bareL X).take k ++ [(X[k]?.getD 0, 0)] := by
  rw [List.take_add_one, bare_at X k hk]; rfl
theorem cvL_no {h : Int} {L : List Int} (hs : ¬ setE h L = 0) : cvL h L = [] := by unfold cvL thV; rw [if_neg hs]; rfl
theorem thV_len {h : Int} {L : List Int} : (thV h L).length ≤ 80000 := by
  unfold thV
  by_cases e : setE h L = 0
  · rw [if_pos e]
    by_cases h0 : L.length = 0
    · rw [if_pos h0]; simp
    · rw [if_neg h0]
      have := flat_len (outk_len h L) (tree h L)
      have := (tree_facts (setE_zero.1 e)).2.2
      have := (set_of (setE_zero.1 e)).2.2.1
      omega
  · rw [if_neg e]; simp
end M
theorem elSub_set (A R : List (Int × Int)) (y x : Int × Int) (n : Nat) (hn : A.length = n) : ((elSub.cells (A ++ y :: R)).set (n * 2) (.int .u64 x.1)).set (n * 2 + 1) (.int .u64 x.2) = elSub.cells (A ++ x :: R) := by
  have hl : (elSub.cells A).length = n * 2 := by rw [elSub.cells_length A, hn]; rfl
  rw [elSub.cells_append, elSub.cells_append]
  show ((elSub.cells A ++ (.int .u64 y.1 :: .int .u64 y.2 :: elSub.cells R)).set _ _).set _ _ = elSub.cells A ++ (.int .u64 x.1 :: .int .u64 x.2 :: elSub.cells R)
  rw [← hl, List.set_append_right _ _ (by omega), List.set_append_right _ _ (by omega)]
  simp
theorem elSub_zeros (n : Nat) : (madeCells #[Value.int .u64 0, .int .u64 0] (n * 2)).toList = elSub.cells (List.replicate n (0, 0)) := by
  have hl : (elSub.cells (List.replicate n (0, 0))).length = n * 2 := by rw [elSub.cells_length]; simp; rfl
  refine List.ext_getElem? fun j => ?_
  by_cases h : j < n * 2
  · have h1 := elSub.cells_get (List.replicate n (0, 0)) (j / 2) (j % 2) (0, 0) (by rw [List.getElem?_replicate, if_pos (by omega)]) (by show j % 2 < 2; omega)
    rw [show j / 2 * elSub.size + j % 2 = j by show j / 2 * 2 + j % 2 = j; omega] at h1
    rw [h1]
    have h2 : j % 2 = 0 ∨ j % 2 = 1 := by omega
    rcases h2 with h2 | h2 <;> simp [madeCells, h, h2, elSub]
  · rw [List.getElem?_eq_none (l := elSub.cells _) (by rw [hl]; omega), List.getElem?_eq_none (by simp [madeCells]; omega)]
/-- the row behind k rounds -/
abbrev halfS (X : List Int) (k : Nat) : List (Int × Int) := (M.bareL X).take k ++ List.replicate (X.length - k) (0, 0)
theorem halfS_set (X : List Int) (k : Nat) (hk : k < X.length) : ((elSub.cells (halfS X k)).set (k * 2) (.int .u64 (X[k]?.getD 0))).set (k * 2 + 1) (.int .u64 0) = elSub.cells (halfS X (k + 1)) := by
  have hr : List.replicate (X.length - k) ((0 : Int), (0 : Int)) = (0, 0) :: List.replicate (X.length - (k + 1)) (0, 0) := by
    rw [show X.length - k = (X.length - (k + 1)) + 1 by omega, List.replicate_succ]
  unfold halfS
  rw [hr, M.bare_take X k hk, List.append_assoc]
  exact elSub_set _ _ _ (X[k]?.getD 0, 0) k (by rw [List.length_take, M.bare_length]; omega)
set_option maxRecDepth 100000 in
theorem Try.infoSub : (Try.prog.info? 35).map (fun i => (i.zero, i.size, i.bytes)) = some (some (.agg #[.int .u64 0, .int .u64 0]), 2, 16) := by kernel_rfl
end Go.Proofs.Ythmiekinjfaflaa
