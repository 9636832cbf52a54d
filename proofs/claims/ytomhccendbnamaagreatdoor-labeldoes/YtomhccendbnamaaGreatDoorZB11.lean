/-
  The library's iterator over the pieces of a slice of octets, sixteen by sixteen. Conditions: the slice holds octets, not too many.
-/
import Derived.Test.YtomhccendbnamaaGreatDoorZB6
import Derived.RangeFuncNested
import Derived.RangeFuncBox
import Derived.RangeFuncLeaves
import Derived.Shelf.Abstract
import Derived.WalkKit
import Derived.OwnWalkIn
import Derived.TacticsInMore
import Derived.LoopNIn
import Derived.LoopIn
import Derived.RegionIn
import Derived.Sort.QuietIn
import Derived.Stop.RegionWithIn
namespace Go.Proofs.YtomhccendbnamaaGreatDoor
open Go.RowKit Go.Shelf
attribute [local go_sem] Oper.semAt_some
/-- the piece x of a slice of n octets -/
abbrev pieceV (b off n x : Nat) : Value := .slice (some ⟨b, off + 16 * x, none⟩) (min 16 (n - 16 * x)) (min 16 (n - 16 * x))
/-- what a round keeps: what lay below n₀, and the two boxes of the iterator -/
def Kch (n₀ Bl Bn : Nat) (A B : World) : Prop := Below n₀ A B ∧ (∀ v, Boxed A Bl 57 v → Boxed B Bl 57 v) ∧ (∀ v, Boxed A Bn 3 v → Boxed B Bn 3 v)
theorem Kch.trans {n₀ Bl Bn : Nat} {A B C : World} (h1 : Kch n₀ Bl Bn A B) (h2 : Kch n₀ Bl Bn B C) : Kch n₀ Bl Bn A C := ⟨h1.1.trans h2.1, fun v h => h2.2.1 v (h1.2.1 v h), fun v h => h2.2.2 v (h1.2.2 v h)⟩
theorem Kch.refl (n₀ Bl Bn : Nat) (A : World) : Kch n₀ Bl Bn A A := ⟨Below.refl _ _, fun _ h => h, fun _ h => h⟩
theorem Kch.dr {n₀ Bl Bn : Nat} {A B : World} (h : Kch n₀ Bl Bn A B) (k : Nat) : Kch n₀ Bl Bn A (B.drewN k) := ⟨below_dr h.1 k, fun v hv => h.2.1 v hv, fun v hv => h.2.2 v hv⟩
end Go.Proofs.YtomhccendbnamaaGreatDoor
namespace Go.Proofs.YtomhccendbnamaaGreatDoor
open Go.RowKit Go.Shelf
attribute [local go_sem] Oper.semAt_some
theorem bx2_own {β : Type} (B Bx : Nat) (F : β → M.Blk) : OwnFrom B (fun (s : β) W => Bx2 W Bx (F s)) := by
  intro s W W' row h hg hr
  refine (hg.block Bx h.lt (fun e => ?_)).trans h
  obtain ⟨_, o, ho, hc⟩ := hr Bx e.symm
  rw [show W.heap[Bx]? = _ from h] at ho; cases ho; cases hc
theorem Boxed.toBelow {A B : World} {k : Nat} {t : TypeId} {v : Value} (h : Boxed A k t v) (hb : Below A.heap.size A B) : Boxed B k t v := (hb.block k h.lt).trans h
theorem boxed_other {A : World} {k : Nat} {t : TypeId} {v : Value} (h : Boxed A k t v) {p : Addr} (hp : k ≠ p.block) (u : Value) : Boxed (A.setCell p u) k t v := (Below.heap_setCell _ _ _ _ hp).trans h
theorem keeps_of_below {A B : World} (hb : Below A.heap.size A B) : KeepsOthers A B := ⟨hb.size, fun k _ h _ => (hb.block k (Array.getElem?_eq_some_iff.1 h).1).trans h⟩
theorem bx2_put {W : World} {B : Nat} {b : M.Blk} (h : Bx2 W B b) (D : Nat) (o : Obj) (hD : B ≠ D) : Bx2 (W.putObj D o) B b := ((grownBy_putObj' W D o).block B h.lt (by simpa using hD)).trans h
theorem piece_bs {w W : World} {ao : Option Addr} {cap b off : Nat} {L : List Int} (hu : Bs w (.slice ao L.length cap) L) (hao : 0 < L.length → ao = some ⟨b, off, none⟩) (x : Nat) (hx : x < M.pcs L) (hb : Below w.heap.size w W) : Bs W (pieceV b off L.length x) (M.pc L x) := by
  unfold M.pcs at hx
  obtain rfl := hao (by omega)
  have hq : L.length ≤ cap := by
    obtain ⟨ao', cap', e, q1, q2, q3, q4⟩ := hu
    simp only [Value.slice.injEq] at e
    omega
  have h := (hu.below hb).part (16 * x) (16 * x + min 16 (L.length - 16 * x)) (min 16 (L.length - 16 * x)) (by omega) (by omega) (by omega) (by omega) (by omega)
  rw [show 16 * x + min 16 (L.length - 16 * x) - 16 * x = min 16 (L.length - 16 * x) by omega] at h
  have e : (L.drop (16 * x)).take (min 16 (L.length - 16 * x)) = M.pc L x := by
    unfold M.pc
    rw [show L.length - 16 * x = (L.drop (16 * x)).length by simp, ← List.take_eq_take_min]
  rw [e] at h
  exact h
end Go.Proofs.YtomhccendbnamaaGreatDoor
