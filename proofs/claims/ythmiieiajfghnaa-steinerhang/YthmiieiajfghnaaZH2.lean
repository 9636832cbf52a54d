/-
  What leaf.Gaps answers at every input. Conditions: the slice holds numbers that fit.
-/
import Derived.Test.YthmiieiajfghnaaZH1
namespace Go.Proofs.Ythmiieiajfghnaa
open Go.RowKit Go.Shelf
attribute [local go_sem] Oper.semAt_some
theorem Try.infoSpan : (Try.prog.info? 41).map (fun i => (i.zero, i.size, i.bytes)) = some (some (.agg #[.int .u64 0, .int .u64 0]), 2, 16) := by kernel_rfl
/-- the cells of a list of spans -/
def spanC : List (Int × Int) → List Value
  | [] => []
  | s :: t => .int .u64 s.1 :: .int .u64 s.2 :: spanC t
theorem spanC_append : ∀ (A B : List (Int × Int)), spanC (A ++ B) = spanC A ++ spanC B
  | [], _ => rfl
  | s :: t, B => by simp [spanC, spanC_append t B]
theorem spanC_length : ∀ (A : List (Int × Int)), (spanC A).length = A.length * 2
  | [] => rfl
  | s :: t => by simp [spanC, spanC_length t]; omega
/-- a block of two cells -/
def Boxed2 (W : World) (B : Nat) (t : TypeId) (u v : Value) : Prop := W.heap[B]? = some (.cells #[u, v] t (0, 0))
theorem Boxed2.lt {W : World} {B : Nat} {t : TypeId} {u v : Value} (h : Boxed2 W B t u v) : B < W.heap.size := (Array.getElem?_eq_some_iff.1 h).1
theorem Boxed2.cell {W : World} {B : Nat} {t : TypeId} {u v : Value} (h : Boxed2 W B t u v) : W.cell? ⟨B, 0, none⟩ = some u ∧ W.cell? ⟨B, 1, none⟩ = some v := by
  constructor <;> simp [World.cell?, show W.heap[B]? = _ from h]
theorem Boxed2.new (W : World) (t : TypeId) (u v : Value) : Boxed2 (W.alloc (.cells #[u, v] t)) W.heap.size t u v := World.alloc_heap_new W _
theorem Boxed2.kept {W W' : World} {row : Option Nat} {B : Nat} {t : TypeId} {u v : Value} (h : Boxed2 W B t u v) (hg : W.grownBy W' row) (hne : some B ≠ row) : Boxed2 W' B t u v := (hg.block B h.lt hne).trans h
theorem cell_two_new (W : World) (u v : Value) (t : TypeId) : ∀ j x, [u, v][j]? = some x → (W.alloc (.cells #[u, v] t)).cell? ((⟨W.heap.size, 0, none⟩ : Addr).add j) = some x := by
  intro j x hj
  rw [Addr.add_lit, Nat.zero_add, cell_at]
  simpa using hj
theorem gaps_length_le : ∀ (L : List Int) (least last : Int), (M.gapsL least last L).length ≤ L.length + 1
  | [], least, last => by unfold M.gapsL; split <;> simp
  | i :: t, least, last => by
    have := gaps_length_le t (i + 1) last
    unfold M.gapsL
    split <;> simp <;> omega
end Go.Proofs.Ythmiieiajfghnaa
