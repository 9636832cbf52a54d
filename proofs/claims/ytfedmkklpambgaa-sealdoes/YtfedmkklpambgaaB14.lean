/-
  What the document's own Fold, and the chapter's example, come to. Condition: the slice holds octets.
-/
import Derived.Test.YtfedmkklpambgaaB12
import Derived.Test.YtfedmkklpambgaaB13
import Derived.ChangeKeysEq
namespace Go.Proofs.Ytfedmkklpambgaa
open Go.RowKit
set_option maxHeartbeats 1000000 in
theorem rfold_no (c : M.Blk) (L : List Int) (v : Value) (w : World) (hu : Bs w v L) (hL : ¬ L.length ≤ 65536) :
    Calls Try.prog 28 #[blkV c, v] w fun e w' => e = .returned (.tuple #[blkV (0#64, 0#64), .int .i64 3]) ∧ Below w.heap.size w w' := by
  obtain ⟨ao, cap, rfl, q1, q2, q3, q4⟩ := hu
  have h16i : ¬ (L.length : Int) ≤ 65536 := by omega
  clear q4 q3
  generalize L.length = m at *
  unfold blkV
  go_enter Try.func28, Try.ntmps28
  go_wp2
  refine bodyPost_ret (v := .tuple #[.agg #[.int .u64 0, .int .u64 0], .int .i64 3]) (by simp [results, Try.results28, go_sem]) rfl ⟨rfl, ?_⟩
  exact below_one (below_one (Below.refl _ _))
theorem rfold_any (c : M.Blk) (L : List Int) (v : Value) (w : World) (hu : Bs w v L) :
    Calls Try.prog 28 #[blkV c, v] w fun e w' => e = .returned (.tuple #[blkV (M.foldV c L), .int .i64 (M.foldE L)]) ∧ Below w.heap.size w w' := by
  by_cases h : L.length ≤ 65536
  · rw [show M.foldV c L = M.fold c L from if_pos h, show M.foldE L = 0 from if_pos h]; exact rfold_yes c L v w hu h
  · rw [show M.foldV c L = (0#64, 0#64) from if_neg h, show M.foldE L = 3 from if_neg h]; exact rfold_no c L v w hu h
theorem fold_live (w : World) : Calls Try.prog 26 #[.agg #[.int .u64 5, .int .u64 6], .slice none 0 0] w fun e w' => e = .returned (.tuple #[.agg #[.int .u64 5, .int .u64 6], .int .i64 0]) ∧ Below w.heap.size w w' :=
  fold_yes (5#64, 6#64) [] _ w (Bs.nil w) (by decide)
theorem Try.infoU64b : (Try.prog.info? 22).map (fun i => (i.zero, i.size, i.bytes)) = some (some (.int .u64 0), 1, 8) := by kernel_rfl
theorem Try.cellsU64b : Try.prog.cellsOf 22 = 1 := by kernel_rfl
/-- '==' of two blocks -/
theorem eqB (x y p q : Int) (w : World) : (Op.equalIn 10000 24 (.agg #[.int .u64 x, .int .u64 y]) (.agg #[.int .u64 p, .int .u64 q])).run Try.prog w = .ok (x == p && y == q) w := by
  obtain ⟨i0, hi, hz0, hz1, hz2⟩ := info_parts Try.infoU64b
  rw [run_equalIn_array w 9999 (n := 2) (e := 22) _ _ Try.underlying24 hi, Try.cellsU64b]
  simp [List.range, List.range.loop, Op.eqItems, part, go_sem]
  by_cases h1 : x = p <;> by_cases h2 : y = q <;> simp [h1, h2]
end Go.Proofs.Ytfedmkklpambgaa
