/-
  Regions that draw their order and whose callees lay new memory alone: one walk, over a class of worlds. The two laws MixXor and MixBack. No condition.
-/
import Derived.Test.YtfedmkklpambgaaB14
namespace Go.Proofs.Ytfedmkklpambgaa
open Go.RowKit
/-- a world of a class -/
structure Cls (G : World → Prop) where
  W : World
  ok : G W
theorem quiet_below {G : World → Prop} (hG : ∀ W W', G W → Below W.heap.size W W' → G W') {P : Program} {f : FuncId} {args : Array Value} (s : Cls G) {v : Value}
    (h : Calls P f args s.W fun e w' => e = .returned v ∧ Below s.W.heap.size s.W w') : Calls P f args s.W fun e w'' => e = .returned v ∧ ∃ t : Cls G, w'' = t.W :=
  h.mono fun _ w' ⟨he, hb⟩ => ⟨he, ⟨w', hG _ _ s.ok hb⟩, rfl⟩
theorem Bx2.cells {W : World} {B : Nat} {b : M.Blk} (h : Bx2 W B b) : W.cell? ⟨B, 0, none⟩ = some (.int .u64 (M.nu b.1)) ∧ W.cell? ⟨B, 1, none⟩ = some (.int .u64 (M.nu b.2)) := ⟨h.facts.1, h.facts.2.1⟩
theorem class_of (w W : World) (bs : List (Nat × M.Blk)) (h : ∀ p ∈ bs, Bx2 W p.1 p.2) (hB : Below w.heap.size w W) : ∃ G : World → Prop, Hid (∀ X X', G X → Below X.heap.size X X' → G X') ∧ (∀ s : Cls G, ∀ p ∈ bs, Bx2 s.W p.1 p.2) ∧ Hid (∀ s : Cls G, Below w.heap.size w s.W) ∧ Hid (G { W with drawn := W.drawn + 1 }) :=
  ⟨fun X => (∀ p ∈ bs, Bx2 X p.1 p.2) ∧ Below w.heap.size w X, fun _ _ h hb => ⟨fun p hp => (h.1 p hp).below hb, below_trans h.2 hb⟩, fun s => s.ok.1, fun s => s.ok.2, ⟨h, below_d1 hB⟩⟩
theorem region_cls {G : World → Prop} {P : Program} {id : Nat} {Q : Exit → Act → World → Prop} {a : Act} {w : World} {l : List Oper} (hm : P.follows .mixedOrders = true) (hB : Region.lexB .any l.toArray = true) (hW : G { w with drawn := w.drawn + 1 })
    (h : wpQuiet P l.toArray (fun w' => ∃ s : Cls G, w' = s.W) (fun a' => ∀ w', (∃ s : Cls G, w' = s.W) → Q .normal a' w') l a) : (Code.region id l.toArray true).wp P Q a w :=
  wp_region_quiet (C := fun w' => ∃ s : Cls G, w' = s.W) hm hB ⟨⟨_, hW⟩, rfl⟩ h
theorem blk_beq (a b : M.Blk) : (M.nu a.1 == M.nu b.1 && M.nu a.2 == M.nu b.2) = decide (a = b) := by
  obtain ⟨x, y⟩ := a
  obtain ⟨p, q⟩ := b
  dsimp only
  rw [Bool.eq_iff_iff]
  simp [M.nu_inj]
theorem blk_same (a b : M.Blk) : (M.nu (M.mix a).1 == M.nu (M.mix b).1 && M.nu (M.mix a).2 == M.nu (M.mix b).2) = (M.nu a.1 == M.nu b.1 && M.nu a.2 == M.nu b.2) := by
  rw [blk_beq, blk_beq]
  simp [M.mix_inj]
end Go.Proofs.Ytfedmkklpambgaa
