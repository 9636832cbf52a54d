/-
  Regions that draw their order and whose callees lay new memory alone: one walk, over a class of worlds in which what is told stays. No condition.
-/
import Derived.Test.YthmiekinjfaflaaZQ1
import Derived.Deep.QuietTactic
import Derived.BigQuiet
namespace Go.Proofs.Ythmiekinjfaflaa
open Go.RowKit
/-- a world of a class -/
structure Clq (G : World → Prop) where
  W : World
  ok : G W
theorem below_dq {W W' : World} {n : Nat} (h : Below n W W') (k : Nat) : Below n W (W'.drewN k) := ⟨h.os, h.tape, h.output, h.size, fun j hj => h.block j hj⟩
theorem below_d1q {W W' : World} {n : Nat} (h : Below n W W') : Below n W { W' with drawn := W'.drawn + 1 } := ⟨h.os, h.tape, h.output, h.size, fun j hj => h.block j hj⟩
theorem quietq {G : World → Prop} (hG : ∀ W W', G W → Below W.heap.size W W' → G W') {P : Program} {f : FuncId} {args : Array Value} (s : Clq G) {v : Value}
    (h : Calls P f args s.W fun e w' => e = .returned v ∧ Below s.W.heap.size s.W w') : Calls P f args s.W fun e w'' => e = .returned v ∧ ∃ t : Clq G, w'' = t.W :=
  h.mono fun _ w' ⟨he, hb⟩ => ⟨he, ⟨w', hG _ _ s.ok hb⟩, rfl⟩
theorem quietq_same {G : World → Prop} {P : Program} {f : FuncId} {args : Array Value} (s : Clq G) {v : Value}
    (h : Calls P f args s.W fun e w' => e = .returned v ∧ w' = s.W) : Calls P f args s.W fun e w'' => e = .returned v ∧ ∃ t : Clq G, w'' = t.W :=
  h.mono fun _ _ ⟨he, hb⟩ => ⟨he, s, hb⟩
theorem clq_of (w W : World) (R : World → Prop) (hR : ∀ X X', R X → Below X.heap.size X X' → R X') (h : R W) (hB : Below w.heap.size w W) :
    ∃ G : World → Prop, Hid (∀ X X', G X → Below X.heap.size X X' → G X') ∧ Hid (∀ s : Clq G, R s.W) ∧ Hid (∀ s : Clq G, Below w.heap.size w s.W) ∧ Hid (G { W with drawn := W.drawn + 1 }) ∧ Nonempty (Clq G) :=
  ⟨fun X => R X ∧ Below w.heap.size w X, fun _ _ h hb => ⟨hR _ _ h.1 hb, below_trans h.2 hb⟩, fun s => s.ok.1, fun s => s.ok.2, ⟨hR _ _ h (below_d1q (Below.refl _ _)), below_d1q hB⟩, ⟨⟨W, h, hB⟩⟩⟩
theorem regionq {G : World → Prop} {P : Program} {id : Nat} {Q : Exit → Act → World → Prop} {a : Act} {w : World} {l : List Oper} (hm : P.follows .mixedOrders = true) (hB : Region.lexB .any l.toArray = true) (hW : G { w with drawn := w.drawn + 1 })
    (h : wpQuiet P l.toArray (fun w' => ∃ s : Clq G, w' = s.W) (fun a' => ∀ w', (∃ s : Clq G, w' = s.W) → Q .normal a' w') l a) : (Code.region id l.toArray true).wp P Q a w :=
  wp_region_quiet (C := fun w' => ∃ s : Clq G, w' = s.W) hm hB ⟨⟨_, hW⟩, rfl⟩ h
theorem Clq.next {G : World → Prop} (hG : ∀ X X', G X → Below X.heap.size X X' → G X') (s : Clq G) : G { s.W with drawn := s.W.drawn + 1 } := hG _ _ s.ok (below_d1q (Below.refl _ _))
end Go.Proofs.Ythmiekinjfaflaa
