/-
  The law MixOctets: a block's octets are sixteen, of which it is again the block; exclusive or is taken octet by octet. Condition: the slice holds octets.
-/
import Derived.Test.YthbacijbgjmigaaZB6
import Derived.Test.YthbacijbgjmigaaZL3MixApart
import Derived.Deep.RegionHeld3
namespace Go.Proofs.Ythbacijbgjmigaa
open Go.RowKit
theorem box2ab (w : World) (a b : M.Blk) (X : World) (hX : X = (w.alloc (.cells #[.int .u64 (M.nu a.1), .int .u64 (M.nu a.2)] 27)).alloc (.cells #[.int .u64 (M.nu b.1), .int .u64 (M.nu b.2)] 27)) : Bx2 X w.heap.size a ∧ Bx2 X (w.heap.size + 1) b ∧ Below w.heap.size w X := by
  subst hX
  refine ⟨(Bx2.new w a).alloc _, ?_, below_one (below_one (Below.refl _ _))⟩
  have := Bx2.new (w.alloc (.cells #[.int .u64 (M.nu a.1), .int .u64 (M.nu a.2)] 27)) b
  rwa [World.size_alloc] at this
theorem ofV_octs (a : M.Blk) : M.ofV (M.octs a) = a := by
  rw [show M.ofV (M.octs a) = M.ofOct (M.fillF (M.octs a)) from if_pos (octs_length a), M.ofOct_octs]
end Go.Proofs.Ythbacijbgjmigaa
