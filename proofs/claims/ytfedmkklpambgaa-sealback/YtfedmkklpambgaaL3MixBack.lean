/-
  The law MixBack: what is mixed is taken back, and the other way round. No condition.
-/
import Derived.Test.YtfedmkklpambgaaL3a
namespace Go.Proofs.Ytfedmkklpambgaa
open Go.RowKit
theorem mix_eq {a m : M.Blk} (h : M.mix a = m) (w : World) : Calls Try.prog 34 #[.agg #[.int .u64 (M.nu a.1), .int .u64 (M.nu a.2)]] w fun e w' => e = .returned (.agg #[.int .u64 (M.nu m.1), .int .u64 (M.nu m.2)]) ∧ Below w.heap.size w w' := by
  subst h; exact mix_at a w
theorem rmix_eq {a m : M.Blk} (h : M.mix a = m) (w : World) : Calls Try.prog 30 #[.agg #[.int .u64 (M.nu a.1), .int .u64 (M.nu a.2)]] w fun e w' => e = .returned (.agg #[.int .u64 (M.nu m.1), .int .u64 (M.nu m.2)]) ∧ Below w.heap.size w w' := by
  subst h; exact rmix_at a w
end Go.Proofs.Ytfedmkklpambgaa
