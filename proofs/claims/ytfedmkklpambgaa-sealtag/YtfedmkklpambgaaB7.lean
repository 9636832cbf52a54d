/-
  What filled, Octets and Of come to at every input. Condition: the slice holds octets.
-/
import Derived.Test.YtfedmkklpambgaaB6
namespace Go.Proofs.Ytfedmkklpambgaa
open Go.RowKit
set_option maxHeartbeats 1000000 in
theorem filled_any (L : List Int) (v : Value) (w : World) (hu : Bs w v L) :
    Calls Try.prog 31 #[v] w fun e w' => e = .returned (octV (M.fillF L)) ∧ Below w.heap.size w w' := by
  obtain ⟨ao, cap, rfl, q1, q2, q3, q4⟩ := id hu
  have hz := (Bx16.new w (fun _ => 0)).alloc (.cells (octC fun _ => 0) 48)
  have hg : ((w.alloc (.cells (octC fun _ => 0) 48)).alloc (.cells (octC fun _ => 0) 48)).heap[w.heap.size + 1]? = some (.cells (octC fun _ => 0) 48 (0, 0)) := by
    have h := Bx16.new (w.alloc (.cells (octC fun _ => 0) 48)) (fun _ => 0)
    rw [World.size_alloc] at h; exact h
  obtain ⟨w2, hr, hg2, hb2⟩ := run_copy_fill _ (w.heap.size + 1) cap 48 3 ao L ((hu.alloc _).alloc _) hg
  have hz2 : Bx16 w2 w.heap.size fun _ => 0 := (hb2.block w.heap.size (by omega)).trans hz
  have hx2 : Bx16 w2 (w.heap.size + 1) (M.fillF L) := hg2
  have hB : Below w.heap.size w w2 := (below_one (below_one (Below.refl _ _))).trans (hb2.mono (by omega))
  clear hg2 hz hg hb2 q4 q3 hu
  unfold octC at hr
  have c1 : ∀ j, j < 16 → w2.cell? ⟨w.heap.size + 1, j, none⟩ = some (.int .u8 (M.fillF L j)) := fun j hj => hx2.cell j hj
  have c2 : ∀ j, j < 16 → w2.cell? ⟨w.heap.size, j, none⟩ = some (.int .u8 0) := fun j hj => hz2.cell j hj
  have f1 : ∀ j, w2.frozen? ⟨w.heap.size, j, none⟩ = false := fun j => hz2.frozen j
  have HZ := hid' hz2
  clear hx2 hz2
  go_enter Try.func31, Try.ntmps31
  go_wp2
  have h16 := HZ.out.set16 (M.fillF L)
  have b16 := below_set16 (B := w.heap.size) hB (by omega) (M.fillF L)
  generalize ((((((((((((((((w2.setCell ⟨w.heap.size, 0, none⟩ (.int .u8 (M.fillF L 0))).setCell ⟨w.heap.size, 1, none⟩ (.int .u8 (M.fillF L 1))).setCell ⟨w.heap.size, 2, none⟩ (.int .u8 (M.fillF L 2))).setCell ⟨w.heap.size, 3, none⟩ (.int .u8 (M.fillF L 3))).setCell ⟨w.heap.size, 4, none⟩ (.int .u8 (M.fillF L 4))).setCell ⟨w.heap.size, 5, none⟩ (.int .u8 (M.fillF L 5))).setCell ⟨w.heap.size, 6, none⟩ (.int .u8 (M.fillF L 6))).setCell ⟨w.heap.size, 7, none⟩ (.int .u8 (M.fillF L 7))).setCell ⟨w.heap.size, 8, none⟩ (.int .u8 (M.fillF L 8))).setCell ⟨w.heap.size, 9, none⟩ (.int .u8 (M.fillF L 9))).setCell ⟨w.heap.size, 10, none⟩ (.int .u8 (M.fillF L 10))).setCell ⟨w.heap.size, 11, none⟩ (.int .u8 (M.fillF L 11))).setCell ⟨w.heap.size, 12, none⟩ (.int .u8 (M.fillF L 12))).setCell ⟨w.heap.size, 13, none⟩ (.int .u8 (M.fillF L 13))).setCell ⟨w.heap.size, 14, none⟩ (.int .u8 (M.fillF L 14))).setCell ⟨w.heap.size, 15, none⟩ (.int .u8 (M.fillF L 15))) = W16 at *
  obtain ⟨r0, r1, r2, r3, r4, r5, r6, r7, r8, r9, r10, r11, r12, r13, r14, r15⟩ := h16.facts
  refine bodyPost_ret (v := octV (M.fillF L)) (by simp [results, Try.results31, go_sem, octV, r0, r1, r2, r3, r4, r5, r6, r7, r8, r9, r10, r11, r12, r13, r14, r15]) rfl ⟨rfl, b16⟩
end Go.Proofs.Ytfedmkklpambgaa
