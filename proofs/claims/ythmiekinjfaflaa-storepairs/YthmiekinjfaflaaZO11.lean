/-
  The law's own example, by the program. No condition.
-/
import Derived.Test.YthmiekinjfaflaaZG1
import Derived.Test.YthmiekinjfaflaaZO6
namespace Go.Proofs.Ythmiekinjfaflaa
open Go.RowKit
theorem M.live9a : M.thV 2 [1] = [3, 4] := by decide +kernel
theorem M.live9b : M.setE 2 [1] = 0 := by decide +kernel
theorem us_two (w : World) (x y : Int) (e : TypeId) (hx : 0 ≤ x ∧ x ≤ 18446744073709551615) (hy : 0 ≤ y ∧ y ≤ 18446744073709551615) : Us (w.alloc (.cells #[.int .u64 x, .int .u64 y] e)) (.slice (some ⟨w.heap.size, 0, none⟩) 2 2) [x, y] :=
  ⟨_, 2, rfl, by simp, by simp [maxLen], by simp; omega, fun _ => ⟨w.heap.size, 0, rfl, by simp, fun j hj => by
    have h2 : j < 2 := by simpa using hj
    rw [cell_of_row _ _ _ _ _ _ (heap_alloc_new w _), Nat.zero_add]
    match j, h2 with
    | 0, _ => rfl
    | 1, _ => rfl⟩⟩
end Go.Proofs.Ythmiekinjfaflaa
