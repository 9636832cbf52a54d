/-
  The law MixDoes: any block mixed, two exclusive or, any part, and any block's octets, or why not. No condition.
-/
import Derived.Test.YthbacijbgjmigaaZB16
import Derived.Test.YthbacijbgjmigaaZL3MixOctets
namespace Go.Proofs.Ythbacijbgjmigaa
open Go.RowKit
theorem own_kept8 {w w' : World} {base : Nat} {e : TypeId} {size : Nat} {v : Value} {n : Nat} {xs : List Value} (h : w.ownsRow base e size v n xs) (hb : Below w.heap.size w w') : w'.ownsRow base e size v n xs :=
  h.kept (row := none) ⟨hb.os, hb.tape, hb.output, hb.size, fun k hk _ => hb.block k hk⟩ (by cases hv : v.ownBlock <;> simp)
theorem roctets_at (b : M.Blk) (w : World) :
    Calls Try.prog 48 #[.agg #[.int .u64 (M.nu b.1), .int .u64 (M.nu b.2)]] w fun e w' => ∃ v, e = .returned v ∧ w'.ownsRow w.heap.size 5 1 v 16 (u8s (M.octs b)) ∧ Below w.heap.size w w' := roctets_any b w
end Go.Proofs.Ythbacijbgjmigaa
