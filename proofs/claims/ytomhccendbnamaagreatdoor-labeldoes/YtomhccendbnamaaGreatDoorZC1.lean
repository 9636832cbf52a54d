/-
  What is wrapped, in memory; '==' of it. Conditions: each theorem's own premises.
-/
import Derived.Test.YtomhccendbnamaaGreatDoorZB15
import Derived.Test.YtomhccendbnamaaGreatDoorZB6
import Derived.Laws.StructEq
namespace Go.Proofs.YtomhccendbnamaaGreatDoor
open Go.RowKit
/-- what is wrapped, as the program holds it -/
def seaV (s : M.Sea) : Value := .agg #[.int .u64 (M.nu s.1.1), .int .u64 (M.nu s.1.2), .int .u64 (M.nu s.2.1), .int .u64 (M.nu s.2.2)]
/-- a block of four cells -/
def Bx4 (W : World) (B : Nat) (s : M.Sea) : Prop := W.heap[B]? = some (.cells #[.int .u64 (M.nu s.1.1), .int .u64 (M.nu s.1.2), .int .u64 (M.nu s.2.1), .int .u64 (M.nu s.2.2)] 27 (0, 0))
theorem Bx4.lt {W : World} {B : Nat} {s : M.Sea} (h : Bx4 W B s) : B < W.heap.size := (Array.getElem?_eq_some_iff.1 h).1
theorem Bx4.cells {W : World} {B : Nat} {s : M.Sea} (h : Bx4 W B s) : W.cell? ⟨B, 0, none⟩ = some (.int .u64 (M.nu s.1.1)) ∧ W.cell? ⟨B, 1, none⟩ = some (.int .u64 (M.nu s.1.2)) ∧ W.cell? ⟨B, 2, none⟩ = some (.int .u64 (M.nu s.2.1)) ∧ W.cell? ⟨B, 3, none⟩ = some (.int .u64 (M.nu s.2.2)) := by
  have h' : W.heap[B]? = _ := h
  refine ⟨?_, ?_, ?_, ?_⟩ <;> simp [World.cell?, h']
theorem Bx4.frozen {W : World} {B : Nat} {s : M.Sea} (h : Bx4 W B s) : W.frozen? ⟨B, 0, none⟩ = false ∧ W.frozen? ⟨B, 1, none⟩ = false ∧ W.frozen? ⟨B, 2, none⟩ = false ∧ W.frozen? ⟨B, 3, none⟩ = false := by
  have h' : W.heap[B]? = _ := h
  refine ⟨?_, ?_, ?_, ?_⟩ <;> simp [World.frozen?, h']
set_option maxRecDepth 100000 in
theorem Bx4.new (W : World) (s : M.Sea) : Bx4 (W.alloc (.cells #[.int .u64 (M.nu s.1.1), .int .u64 (M.nu s.1.2), .int .u64 (M.nu s.2.1), .int .u64 (M.nu s.2.2)] 27)) W.heap.size s := by
  show (W.heap.push _)[W.heap.size]? = _
  simp
theorem Bx4.alloc {W : World} {B : Nat} {s : M.Sea} (h : Bx4 W B s) (o : Obj) : Bx4 (W.alloc o) B s := (Below.heap_alloc _ _ _ h.lt).trans h
theorem Bx4.below {W W' : World} {B : Nat} {s : M.Sea} (h : Bx4 W B s) (hb : Below W.heap.size W W') : Bx4 W' B s := (hb.block B h.lt).trans h
theorem Bx4.other {W : World} {B : Nat} {s : M.Sea} (h : Bx4 W B s) {p : Addr} (hp : B ≠ p.block) (v : Value) : Bx4 (W.setCell p v) B s := (Below.heap_setCell _ _ _ _ hp).trans h
set_option maxRecDepth 100000 in
theorem eqBd (d : Nat) (x y p q : Int) (w : World) : (Op.equalIn (d + 2) 25 (.agg #[.int .u64 x, .int .u64 y]) (.agg #[.int .u64 p, .int .u64 q])).run Tryz.prog w = .ok (x == p && y == q) w := by
  obtain ⟨i0, hi, hz0, hz1, hz2⟩ := info_parts Tryz.infoU64b
  rw [run_equalIn_array w (d + 1) (n := 2) (e := 23) _ _ Tryz.underlying25 hi, Tryz.cellsU64b]
  simp [List.range, List.range.loop, Op.eqItems, part, go_sem]
  by_cases h1 : x = p <;> by_cases h2 : y = q <;> simp [h1, h2]
set_option maxRecDepth 100000 in
theorem Tryz.fieldsS : (Tryz.prog.fieldsOf 27) = #[⟨"C", 25, 0, false, "", "", 0⟩, ⟨"T", 25, 2, false, "", "", 16⟩] := by kernel_rfl
set_option maxRecDepth 100000 in
theorem Tryz.heldS : Tryz.prog.stoodInHeld 27 = false := by kernel_rfl
set_option maxRecDepth 100000 in
theorem Tryz.structS : Tryz.prog.underlying 27 = some (.struct (Tryz.prog.fieldsOf 27)) := by kernel_rfl
set_option maxRecDepth 100000 in
/-- '==' of two sealed -/
theorem eqS (a b c d x y z u : Int) (w : World) : (Op.equalIn 10000 27 (.agg #[.int .u64 a, .int .u64 b, .int .u64 c, .int .u64 d]) (.agg #[.int .u64 x, .int .u64 y, .int .u64 z, .int .u64 u])).run Tryz.prog w = .ok ((a == x && b == y) && (c == z && d == u)) w := by
  rw [run_equalIn_struct w 9999 _ _ _ Tryz.structS Tryz.heldS, Tryz.fieldsS]
  simp [Op.eqFields, part, go_sem, eqBd 9997]
  by_cases h1 : a = x <;> by_cases h2 : b = y <;> by_cases h3 : c = z <;> by_cases h4 : d = u <;> simp [h1, h2, h3, h4]
theorem sea_beq (a b : M.Sea) : ((M.nu a.1.1 == M.nu b.1.1 && M.nu a.1.2 == M.nu b.1.2) && (M.nu a.2.1 == M.nu b.2.1 && M.nu a.2.2 == M.nu b.2.2)) = decide (a = b) := by
  rw [blk_beq, blk_beq]
  obtain ⟨p, q⟩ := a
  obtain ⟨r, t⟩ := b
  rw [Bool.eq_iff_iff]
  simp
end Go.Proofs.YtomhccendbnamaaGreatDoor
namespace Go.Proofs.YtomhccendbnamaaGreatDoor
open Go.RowKit
theorem Bx4.set {W : World} {B : Nat} {s : M.Sea} (h : Bx4 W B s) (c : M.Sea) : Bx4 ((((W.setCell ⟨B, 0, none⟩ (.int .u64 (M.nu c.1.1))).setCell ⟨B, 1, none⟩ (.int .u64 (M.nu c.1.2))).setCell ⟨B, 2, none⟩ (.int .u64 (M.nu c.2.1))).setCell ⟨B, 3, none⟩ (.int .u64 (M.nu c.2.2))) B c := by
  have h' : W.heap[B]? = _ := h
  unfold Bx4
  simp only [World.setCell, Array.getElem?_modify, if_true, h', Option.map_some]
  rfl
theorem below_set4 {w W : World} {B : Nat} (h : Below w.heap.size w W) (hB : w.heap.size ≤ B) (u v x y : Value) : Below w.heap.size w ((((W.setCell ⟨B, 0, none⟩ u).setCell ⟨B, 1, none⟩ v).setCell ⟨B, 2, none⟩ x).setCell ⟨B, 3, none⟩ y) := (((h.setCell hB _).setCell hB _).setCell hB _).setCell hB _
theorem goods4 (w W : World) (bs : List (Nat × M.Blk)) (ss : List (Nat × M.Sea)) (h : ∀ p ∈ bs, Bx2 W p.1 p.2) (h4 : ∀ p ∈ ss, Bx4 W p.1 p.2) (hB : Below w.heap.size w W) : ∃ G : World → Prop, Hid (∀ X X', G X → Below X.heap.size X X' → G X') ∧ Hid (∀ X, G X → ∀ p ∈ bs, Bx2 X p.1 p.2) ∧ Hid (∀ X, G X → ∀ p ∈ ss, Bx4 X p.1 p.2) ∧ Hid (∀ X, G X → Below w.heap.size w X) ∧ Hid (∀ X B o v, G X → W.heap.size ≤ B → G (X.setCell ⟨B, o, none⟩ v)) ∧ G W :=
  ⟨fun X => (∀ p ∈ bs, Bx2 X p.1 p.2) ∧ (∀ p ∈ ss, Bx4 X p.1 p.2) ∧ Below w.heap.size w X, fun _ _ h hb => ⟨fun p hp => (h.1 p hp).below hb, fun p hp => (h.2.1 p hp).below hb, below_trans h.2.2 hb⟩, fun _ h => h.1, fun _ h => h.2.1, fun _ h => h.2.2, fun _ B _ _ hX hb => ⟨fun p hp => (hX.1 p hp).other (by have := (h p hp).lt; simp; omega) _, fun p hp => (hX.2.1 p hp).other (by have := (h4 p hp).lt; simp; omega) _, hX.2.2.setCell (by have := hB.size; simp; omega) _⟩, ⟨h, h4, hB⟩⟩
end Go.Proofs.YtomhccendbnamaaGreatDoor
namespace Go.Proofs.YtomhccendbnamaaGreatDoor
open Go.RowKit
end Go.Proofs.YtomhccendbnamaaGreatDoor
namespace Go.Proofs.YtomhccendbnamaaGreatDoor
open Go.RowKit
end Go.Proofs.YtomhccendbnamaaGreatDoor
