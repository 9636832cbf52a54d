/-
  What the closures of the program's Deep come to. Conditions: each theorem's own premises.
-/
import Derived.Test.YthbacijbgjmigaaZU2
namespace Go.Proofs.Ythbacijbgjmigaa
open Go.RowKit
theorem grownq_trans {a b c : World} {row : Option Nat} (h : a.grownBy b row) (k : b.grownBy c row) : a.grownBy c row :=
  ⟨k.os.trans h.os, k.tape.trans h.tape, k.output.trans h.output, Nat.le_trans h.size k.size, fun i hi hr => (k.block i (Nat.lt_of_lt_of_le hi h.size) hr).trans (h.block i hi hr)⟩
theorem grownq_store (w : World) (g k : Nat) (v : Value) : w.grownBy ((w.setCell ⟨g, k, none⟩ v).drew) (some g) :=
  ⟨rfl, rfl, rfl, by simp, fun i hi hr => by
    have : i ≠ g := fun e => hr (by rw [e])
    exact heap_setCell_other w ⟨g, k, none⟩ i v this⟩
/-- a box of one value -/
def Bx1 (W : World) (B : Nat) (v : Value) (t : TypeId) : Prop := W.heap[B]? = some (.cells #[v] t (0, 0))
theorem Bx1.lt {W : World} {B : Nat} {v : Value} {t : TypeId} (h : Bx1 W B v t) : B < W.heap.size := (Array.getElem?_eq_some_iff.1 h).1
theorem Bx1.cell {W : World} {B : Nat} {v : Value} {t : TypeId} (h : Bx1 W B v t) : W.cell? ⟨B, 0, none⟩ = some v := by
  have h' : W.heap[B]? = _ := h
  unfold World.cell?
  rw [h']; rfl
theorem Bx1.new (W : World) (v : Value) (t : TypeId) : Bx1 (W.alloc (.cells #[v] t)) W.heap.size v t := heap_alloc_new W _
theorem Bx1.alloc {W : World} {B : Nat} {v : Value} {t : TypeId} (h : Bx1 W B v t) (o : Obj) : Bx1 (W.alloc o) B v t := (Below.heap_alloc _ _ _ h.lt).trans h
theorem Bx1.below {W W' : World} {B : Nat} {v : Value} {t : TypeId} (h : Bx1 W B v t) (hb : Below W.heap.size W W') : Bx1 W' B v t := (hb.block B h.lt).trans h
theorem Bx1.grown {W W' : World} {B g : Nat} {v : Value} {t : TypeId} (h : Bx1 W B v t) (hg : W.grownBy W' (some g)) (hne : B ≠ g) : Bx1 W' B v t := (hg.block B h.lt (by simpa using hne)).trans h
theorem Bx3.grown {W W' : World} {B g : Nat} {s : M.Tm} (h : Bx3 W B s) (hg : W.grownBy W' (some g)) (hne : B ≠ g) : Bx3 W' B s := (hg.block B h.lt (by simpa using hne)).trans h
theorem grownq_alloc {w w' : World} {o : Obj} {g : Nat} (h : (w.alloc o).grownBy w' (some g)) : w.grownBy w' (some g) := grownq_trans (World.grownBy_alloc w o (some g)) h
end Go.Proofs.Ythbacijbgjmigaa
