/-
  What is wrapped, in memory; '==' of it. Conditions: each theorem's own premises.
-/
import Derived.Test.YtfedmkklpambgaaNS
import Derived.Test.YtfedmkklpambgaaL3MixDoes
import Derived.Laws.StructEq
namespace Go.Proofs.Ytfedmkklpambgaa
open Go.RowKit
/-- what is wrapped, as the program holds it -/
def seaV (s : M.Sea) : Value := .agg #[.int .u64 (M.nu s.1.1), .int .u64 (M.nu s.1.2), .int .u64 (M.nu s.2.1), .int .u64 (M.nu s.2.2)]
/-- a block of four cells -/
def Bx4 (W : World) (B : Nat) (s : M.Sea) : Prop := W.heap[B]? = some (.cells #[.int .u64 (M.nu s.1.1), .int .u64 (M.nu s.1.2), .int .u64 (M.nu s.2.1), .int .u64 (M.nu s.2.2)] 26 (0, 0))
theorem Bx4.lt {W : World} {B : Nat} {s : M.Sea} (h : Bx4 W B s) : B < W.heap.size := (Array.getElem?_eq_some_iff.1 h).1
theorem Bx4.cells {W : World} {B : Nat} {s : M.Sea} (h : Bx4 W B s) : W.cell? ⟨B, 0, none⟩ = some (.int .u64 (M.nu s.1.1)) ∧ W.cell? ⟨B, 1, none⟩ = some (.int .u64 (M.nu s.1.2)) ∧ W.cell? ⟨B, 2, none⟩ = some (.int .u64 (M.nu s.2.1)) ∧ W.cell? ⟨B, 3, none⟩ = some (.int .u64 (M.nu s.2.2)) := by
  have h' : W.heap[B]? = _ := h
  refine ⟨?_, ?_, ?_, ?_⟩ <;> simp [World.cell?, h']
theorem Bx4.frozen {W : World} {B : Nat} {s : M.Sea} (h : Bx4 W B s) : W.frozen? ⟨B, 0, none⟩ = false ∧ W.frozen? ⟨B, 1, none⟩ = false ∧ W.frozen? ⟨B, 2, none⟩ = false ∧ W.frozen? ⟨B, 3, none⟩ = false := by
  have h' : W.heap[B]? = _ := h
  refine ⟨?_, ?_, ?_, ?_⟩ <;> simp [World.frozen?, h']
theorem Bx4.new (W : World) (s : M.Sea) : Bx4 (W.alloc (.cells #[.int .u64 (M.nu s.1.1), .int .u64 (M.nu s.1.2), .int .u64 (M.nu s.2.1), .int .u64 (M.nu s.2.2)] 26)) W.heap.size s := by
  show (W.heap.push _)[W.heap.size]? = _
  simp
theorem Bx4.alloc {W : World} {B : Nat} {s : M.Sea} (h : Bx4 W B s) (o : Obj) : Bx4 (W.alloc o) B s := (Below.heap_alloc _ _ _ h.lt).trans h
theorem Bx4.below {W W' : World} {B : Nat} {s : M.Sea} (h : Bx4 W B s) (hb : Below W.heap.size W W') : Bx4 W' B s := (hb.block B h.lt).trans h
theorem Bx4.other {W : World} {B : Nat} {s : M.Sea} (h : Bx4 W B s) {p : Addr} (hp : B ≠ p.block) (v : Value) : Bx4 (W.setCell p v) B s := (Below.heap_setCell _ _ _ _ hp).trans h
theorem eqBd (d : Nat) (x y p q : Int) (w : World) : (Op.equalIn (d + 2) 24 (.agg #[.int .u64 x, .int .u64 y]) (.agg #[.int .u64 p, .int .u64 q])).run Try.prog w = .ok (x == p && y == q) w := by
  obtain ⟨i0, hi, hz0, hz1, hz2⟩ := info_parts Try.infoU64b
  rw [run_equalIn_array w (d + 1) (n := 2) (e := 22) _ _ Try.underlying24 hi, Try.cellsU64b]
  simp [List.range, List.range.loop, Op.eqItems, part, go_sem]
  by_cases h1 : x = p <;> by_cases h2 : y = q <;> simp [h1, h2]
theorem Try.fieldsS : (Try.prog.fieldsOf 26) = #[⟨"C", 24, 0, false, "", "", 0⟩, ⟨"T", 24, 2, false, "", "", 16⟩] := by kernel_rfl
theorem Try.heldS : Try.prog.stoodInHeld 26 = false := by kernel_rfl
theorem Try.structS : Try.prog.underlying 26 = some (.struct (Try.prog.fieldsOf 26)) := by kernel_rfl
/-- '==' of two sealed -/
theorem eqS (a b c d x y z u : Int) (w : World) : (Op.equalIn 10000 26 (.agg #[.int .u64 a, .int .u64 b, .int .u64 c, .int .u64 d]) (.agg #[.int .u64 x, .int .u64 y, .int .u64 z, .int .u64 u])).run Try.prog w = .ok ((a == x && b == y) && (c == z && d == u)) w := by
  rw [run_equalIn_struct w 9999 _ _ _ Try.structS Try.heldS, Try.fieldsS]
  simp [Op.eqFields, part, go_sem, eqBd 9997]
  by_cases h1 : a = x <;> by_cases h2 : b = y <;> by_cases h3 : c = z <;> by_cases h4 : d = u <;> simp [h1, h2, h3, h4]
theorem sea_beq (a b : M.Sea) : ((M.nu a.1.1 == M.nu b.1.1 && M.nu a.1.2 == M.nu b.1.2) && (M.nu a.2.1 == M.nu b.2.1 && M.nu a.2.2 == M.nu b.2.2)) = decide (a = b) := by
  rw [blk_beq, blk_beq]
  obtain ⟨p, q⟩ := a
  obtain ⟨r, t⟩ := b
  rw [Bool.eq_iff_iff]
  simp
end Go.Proofs.Ytfedmkklpambgaa
