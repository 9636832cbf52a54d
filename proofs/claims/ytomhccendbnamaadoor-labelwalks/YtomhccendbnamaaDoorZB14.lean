/-
  What the document's own Fold, and the chapter's example, come to. Condition: the slice holds octets.
-/
import Derived.Test.YtomhccendbnamaaDoorZB11
import Derived.Test.YtomhccendbnamaaDoorZB6
import Derived.ChangeKeysEq
namespace Go.Proofs.YtomhccendbnamaaDoor
open Go.RowKit
set_option maxRecDepth 100000 in
theorem fold_live (w : World) : Calls Tryd.prog 80 #[.agg #[.int .u64 5, .int .u64 6], .slice none 0 0] w fun e w' => e = .returned (.tuple #[.agg #[.int .u64 5, .int .u64 6], .int .i64 0]) ∧ Below w.heap.size w w' :=
  fold_yes (5#64, 6#64) [] _ w (Bs.nil w) (by decide)
set_option maxRecDepth 100000 in
theorem Tryd.infoU64b : (Tryd.prog.info? 23).map (fun i => (i.zero, i.size, i.bytes)) = some (some (.int .u64 0), 1, 8) := by kernel_rfl
set_option maxRecDepth 100000 in
theorem Tryd.cellsU64b : Tryd.prog.cellsOf 23 = 1 := by kernel_rfl
set_option maxRecDepth 100000 in
/-- '==' of two blocks -/
theorem eqB (x y p q : Int) (w : World) : (Op.equalIn 10000 25 (.agg #[.int .u64 x, .int .u64 y]) (.agg #[.int .u64 p, .int .u64 q])).run Tryd.prog w = .ok (x == p && y == q) w := by
  obtain ⟨i0, hi, hz0, hz1, hz2⟩ := info_parts Tryd.infoU64b
  rw [run_equalIn_array w 9999 (n := 2) (e := 23) _ _ Tryd.underlying25 hi, Tryd.cellsU64b]
  simp [List.range, List.range.loop, Op.eqItems, part, go_sem]
  by_cases h1 : x = p <;> by_cases h2 : y = q <;> simp [h1, h2]
end Go.Proofs.YtomhccendbnamaaDoor
namespace Go.Proofs.YtomhccendbnamaaDoor
open Go.RowKit
/-- a world of a class -/
structure Cls (G : World → Prop) where
  W : World
  ok : G W
theorem quiet_below {G : World → Prop} (hG : ∀ W W', G W → Below W.heap.size W W' → G W') {P : Program} {f : FuncId} {args : Array Value} (s : Cls G) {v : Value}
    (h : Calls P f args s.W fun e w' => e = .returned v ∧ Below s.W.heap.size s.W w') : Calls P f args s.W fun e w'' => e = .returned v ∧ ∃ t : Cls G, w'' = t.W :=
  h.mono fun _ w' ⟨he, hb⟩ => ⟨he, ⟨w', hG _ _ s.ok hb⟩, rfl⟩
theorem Bx2.cells {W : World} {B : Nat} {b : M.Blk} (h : Bx2 W B b) : W.cell? ⟨B, 0, none⟩ = some (.int .u64 (M.nu b.1)) ∧ W.cell? ⟨B, 1, none⟩ = some (.int .u64 (M.nu b.2)) := ⟨h.facts.1, h.facts.2.1⟩
theorem class_of (w W : World) (bs : List (Nat × M.Blk)) (h : ∀ p ∈ bs, Bx2 W p.1 p.2) (hB : Below w.heap.size w W) : ∃ G : World → Prop, Hid (∀ X X', G X → Below X.heap.size X X' → G X') ∧ (∀ s : Cls G, ∀ p ∈ bs, Bx2 s.W p.1 p.2) ∧ Hid (∀ s : Cls G, Below w.heap.size w s.W) ∧ Hid (G { W with drawn := W.drawn + 1 }) :=
  ⟨fun X => (∀ p ∈ bs, Bx2 X p.1 p.2) ∧ Below w.heap.size w X, fun _ _ h hb => ⟨fun p hp => (h.1 p hp).below hb, below_trans h.2 hb⟩, fun s => s.ok.1, fun s => s.ok.2, ⟨h, below_d1 hB⟩⟩
theorem region_cls {G : World → Prop} {P : Program} {id : Nat} {Q : Exit → Act → World → Prop} {a : Act} {w : World} {l : List Oper} (hm : P.follows .mixedOrders = true) (hB : Region.lexB .any l.toArray = true) (hW : G { w with drawn := w.drawn + 1 })
    (h : wpQuiet P l.toArray (fun w' => ∃ s : Cls G, w' = s.W) (fun a' => ∀ w', (∃ s : Cls G, w' = s.W) → Q .normal a' w') l a) : (Code.region id l.toArray true).wp P Q a w :=
  wp_region_quiet (C := fun w' => ∃ s : Cls G, w' = s.W) hm hB ⟨⟨_, hW⟩, rfl⟩ h
theorem blk_beq (a b : M.Blk) : (M.nu a.1 == M.nu b.1 && M.nu a.2 == M.nu b.2) = decide (a = b) := by
  obtain ⟨x, y⟩ := a
  obtain ⟨p, q⟩ := b
  dsimp only
  rw [Bool.eq_iff_iff]
  simp [M.nu_inj]
theorem blk_same (a b : M.Blk) : (M.nu (M.mix a).1 == M.nu (M.mix b).1 && M.nu (M.mix a).2 == M.nu (M.mix b).2) = (M.nu a.1 == M.nu b.1 && M.nu a.2 == M.nu b.2) := by
  rw [blk_beq, blk_beq]
  simp [M.mix_inj]
end Go.Proofs.YtomhccendbnamaaDoor
namespace Go.Proofs.YtomhccendbnamaaDoor
open Go.RowKit
set_option maxRecDepth 100000 in
theorem mix_eq {a m : M.Blk} (h : M.mix a = m) (w : World) : Calls Tryd.prog 76 #[.agg #[.int .u64 (M.nu a.1), .int .u64 (M.nu a.2)]] w fun e w' => e = .returned (.agg #[.int .u64 (M.nu m.1), .int .u64 (M.nu m.2)]) ∧ Below w.heap.size w w' := by
  subst h; exact mix_at a w
end Go.Proofs.YtomhccendbnamaaDoor
namespace Go.Proofs.YtomhccendbnamaaDoor
open Go.RowKit
set_option maxRecDepth 100000 in
theorem xor_eq {a b m : M.Blk} (h : M.xor a b = m) (w : World) : Calls Tryd.prog 75 #[.agg #[.int .u64 (M.nu a.1), .int .u64 (M.nu a.2)], .agg #[.int .u64 (M.nu b.1), .int .u64 (M.nu b.2)]] w fun e w' => e = .returned (.agg #[.int .u64 (M.nu m.1), .int .u64 (M.nu m.2)]) ∧ Below w.heap.size w w' := by
  subst h; exact xor_at a b w
set_option maxRecDepth 100000 in
theorem part_eq {a p : M.Blk} {i e : Int} (h : M.partV a i = p) (he : M.partE i = e) (w : World) : Calls Tryd.prog 66 #[.agg #[.int .u64 (M.nu a.1), .int .u64 (M.nu a.2)], .int .i64 i] w fun r w' => r = .returned (.tuple #[.agg #[.int .u64 (M.nu p.1), .int .u64 (M.nu p.2)], .int .i64 e]) ∧ Below w.heap.size w w' := by
  subst h; subst he; exact part_any a i w
end Go.Proofs.YtomhccendbnamaaDoor
