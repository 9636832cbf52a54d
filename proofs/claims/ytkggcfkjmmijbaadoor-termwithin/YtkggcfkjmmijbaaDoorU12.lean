/-
  What the closures of the program's Deep come to. Conditions: each theorem's own premises.
-/
import Derived.Test.YtkggcfkjmmijbaaDoorU4
namespace Go.Proofs.YtkggcfkjmmijbaaDoor
open Go.RowKit
theorem grownq_trans {a b c : World} {row : Option Nat} (h : a.grownBy b row) (k : b.grownBy c row) : a.grownBy c row :=
  ⟨k.os.trans h.os, k.tape.trans h.tape, k.output.trans h.output, Nat.le_trans h.size k.size, fun i hi hr => (k.block i (Nat.lt_of_lt_of_le hi h.size) hr).trans (h.block i hi hr)⟩
theorem grownq_store (w : World) (g k : Nat) (v : Value) : w.grownBy ((w.setCell ⟨g, k, none⟩ v).drew) (some g) :=
  ⟨rfl, rfl, rfl, by simp, fun i hi hr => by
    have : i ≠ g := fun e => hr (by rw [e])
    exact heap_setCell_other w ⟨g, k, none⟩ i v this⟩
set_option maxRecDepth 100000 in
set_option maxHeartbeats 4000000 in
theorem deep1_any (A : List M.Tm) (hA : M.Ok A) (base D K g n k p : Nat) (F : Int) (w : World) (hD : w.cell? ⟨D, 0, none⟩ = some (.slice (some ⟨g, 0, none⟩) n n)) (hK : w.cell? ⟨K, 0, none⟩ = some (.int .i64 k)) (hp : p < k) (hk : k < n) (hn : n ≤ A.length)
    (_ : 0 ≤ F) (_ : F ≤ 65536) (hown : w.ownsRow base 3 1 (.slice (some ⟨g, 0, none⟩) n n) n (elInt.cells (M.rowD A k n F))) :
    Calls Tryd.prog 37 #[.int .i64 p, .pointer (some ⟨D, 0, none⟩), .pointer (some ⟨K, 0, none⟩)] w fun e w' => e = .returned (.tuple #[]) ∧ w'.ownsRow base 3 1 (.slice (some ⟨g, 0, none⟩) n n) n (elInt.cells (M.rowD A k n (max F (M.deepV A p + 1)))) ∧ w.grownBy w' (some g) := by
  have c2 := own_cellq hown hk (M.rowD_k A k n _)
  have c3 := own_cellq hown (k := p) (by omega) (M.rowD_p (A := A) (n := n) (F := F) (by omega))
  have f1' := hown.frozenAt k
  have bd1 := M.deepV_bd hA (p + 1) p (by omega) (by omega)
  have hl := hA.1
  have HST := hidq (fun x => own_storeq hown k x)
  simp only [M.rowD_set] at HST
  have HG := hidq (fun x => grownq_store w g k x)
  generalize M.deepV A p = d at *
  have hw := wrap64 (x := d + 1) (by omega) (by omega)
  have hpn : (p : Int) < n := by omega
  have hkn : (k : Int) < n := by omega
  clear hown hA
  obtain ⟨F', hF'⟩ : ∃ F', max F (d + 1) = F' := ⟨_, rfl⟩
  have HF' := hidq hF'
  rw [hF']
  clear hF'
  by_cases hc : F < d + 1
  · have e : d + 1 = F' := by have := HF'.out; omega
    go_enter Tryd.func37, Tryd.ntmps37
    go_wp2
    go_region
    all_goals go_wp2
    all_goals go_end0
    all_goals exact ⟨rfl, HST.out F', HG.out _⟩
  · have e : F = F' := by have := HF'.out; omega
    subst e
    go_enter Tryd.func37, Tryd.ntmps37
    go_wp2
    go_region
    all_goals go_wp2
    all_goals go_end0
    all_goals exact ⟨rfl, HST.out F, HG.out _⟩
/-- a box of one value -/
def Bx1 (W : World) (B : Nat) (v : Value) (t : TypeId) : Prop := W.heap[B]? = some (.cells #[v] t (0, 0))
theorem Bx1.lt {W : World} {B : Nat} {v : Value} {t : TypeId} (h : Bx1 W B v t) : B < W.heap.size := (Array.getElem?_eq_some_iff.1 h).1
theorem Bx1.cell {W : World} {B : Nat} {v : Value} {t : TypeId} (h : Bx1 W B v t) : W.cell? ⟨B, 0, none⟩ = some v := by
  have h' : W.heap[B]? = _ := h
  unfold World.cell?
  rw [h']; rfl
theorem Bx1.new (W : World) (v : Value) (t : TypeId) : Bx1 (W.alloc (.cells #[v] t)) W.heap.size v t := heap_alloc_new W _
theorem Bx1.alloc {W : World} {B : Nat} {v : Value} {t : TypeId} (h : Bx1 W B v t) (o : Obj) : Bx1 (W.alloc o) B v t := (Below.heap_alloc _ _ _ h.lt).trans h
theorem Bx1.below {W W' : World} {B : Nat} {v : Value} {t : TypeId} (h : Bx1 W B v t) (hb : Below W.heap.size W W') : Bx1 W' B v t := (hb.block B h.lt).trans h
theorem Bx1.grown {W W' : World} {B g : Nat} {v : Value} {t : TypeId} (h : Bx1 W B v t) (hg : W.grownBy W' (some g)) (hne : B ≠ g) : Bx1 W' B v t := (hg.block B h.lt (by simpa using hne)).trans h
theorem Bx3.grown {W W' : World} {B g : Nat} {s : M.Tm} (h : Bx3 W B s) (hg : W.grownBy W' (some g)) (hne : B ≠ g) : Bx3 W' B s := (hg.block B h.lt (by simpa using hne)).trans h
theorem grownq_alloc {w w' : World} {o : Obj} {g : Nat} (h : (w.alloc o).grownBy w' (some g)) : w.grownBy w' (some g) := grownq_trans (World.grownBy_alloc w o (some g)) h
end Go.Proofs.YtkggcfkjmmijbaaDoor
