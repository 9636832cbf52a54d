/-
  The law MixPart: a part, exclusive or the block, is the Mix of the block with its first number's lowest bits turned. No condition.
-/
import Derived.Test.YtfedmkklpambgaaL3MixBack
namespace Go.Proofs.Ytfedmkklpambgaa
open Go.RowKit
theorem xor_eq {a b m : M.Blk} (h : M.xor a b = m) (w : World) : Calls Try.prog 19 #[.agg #[.int .u64 (M.nu a.1), .int .u64 (M.nu a.2)], .agg #[.int .u64 (M.nu b.1), .int .u64 (M.nu b.2)]] w fun e w' => e = .returned (.agg #[.int .u64 (M.nu m.1), .int .u64 (M.nu m.2)]) ∧ Below w.heap.size w w' := by
  subst h; exact xor_at a b w
theorem rxor_eq {a b m : M.Blk} (h : M.xor a b = m) (w : World) : Calls Try.prog 22 #[.agg #[.int .u64 (M.nu a.1), .int .u64 (M.nu a.2)], .agg #[.int .u64 (M.nu b.1), .int .u64 (M.nu b.2)]] w fun e w' => e = .returned (.agg #[.int .u64 (M.nu m.1), .int .u64 (M.nu m.2)]) ∧ Below w.heap.size w w' := by
  subst h; exact rxor_at a b w
theorem part_eq {a p : M.Blk} {i e : Int} (h : M.partV a i = p) (he : M.partE i = e) (w : World) : Calls Try.prog 25 #[.agg #[.int .u64 (M.nu a.1), .int .u64 (M.nu a.2)], .int .i64 i] w fun r w' => r = .returned (.tuple #[.agg #[.int .u64 (M.nu p.1), .int .u64 (M.nu p.2)], .int .i64 e]) ∧ Below w.heap.size w w' := by
  subst h; subst he; exact part_any a i w
theorem rpart_eq {a p : M.Blk} {i e : Int} (h : M.partV a i = p) (he : M.partE i = e) (w : World) : Calls Try.prog 21 #[.agg #[.int .u64 (M.nu a.1), .int .u64 (M.nu a.2)], .int .i64 i] w fun r w' => r = .returned (.tuple #[.agg #[.int .u64 (M.nu p.1), .int .u64 (M.nu p.2)], .int .i64 e]) ∧ Below w.heap.size w w' := by
  subst h; subst he; exact rpart_any a i w
end Go.Proofs.Ytfedmkklpambgaa
