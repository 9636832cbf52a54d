/-
  The iterator over the spans between the leaves of a set: all of them, in order. Conditions: the slice holds a rising list, none above the last.
-/
import Derived.Test.YthmiieiajfghnaaZG3
import Derived.RangeFuncNested
import Derived.RangeFuncBox
import Derived.RangeFuncLeaves
import Derived.Shelf.Abstract
import Derived.WalkKit
import Derived.OwnWalkIn
import Derived.TacticsInMore
import Derived.LoopNIn
import Derived.LoopIn
namespace Go.Proofs.Ythmiieiajfghnaa
open Go.RowKit Go.Shelf
attribute [local go_sem] Oper.semAt_some
/-- a span as the program hands it on -/
abbrev spanV (x : Int × Int) : Value := .agg #[.int .u64 x.1, .int .u64 x.2]
/-- what a round keeps: what lay below n₀, and the box of the last leaf -/
def Kps (n₀ Br : Nat) (A B : World) : Prop := Below n₀ A B ∧ ∀ v, Boxed A Br 23 v → Boxed B Br 23 v
theorem Kps.trans {n₀ Br : Nat} {A B C : World} (h1 : Kps n₀ Br A B) (h2 : Kps n₀ Br B C) : Kps n₀ Br A C := ⟨h1.1.trans h2.1, fun v h => h2.2 v (h1.2 v h)⟩
theorem Kps.refl (n₀ Br : Nat) (A : World) : Kps n₀ Br A A := ⟨Below.refl _ _, fun _ h => h⟩
end Go.Proofs.Ythmiieiajfghnaa
