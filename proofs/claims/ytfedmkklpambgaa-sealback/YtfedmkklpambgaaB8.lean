/-
  What Octets and Of come to at every input. Condition: the slice holds octets.
-/
import Derived.Test.YtfedmkklpambgaaB7
namespace Go.Proofs.Ytfedmkklpambgaa
open Go.RowKit
/-- a block's octets -/
def M.octs (b : M.Blk) : List Int := (List.range 16).map (M.oc b)
theorem octs_length (b : M.Blk) : (M.octs b).length = 16 := by simp [M.octs]
theorem octs_get (b : M.Blk) (j : Nat) (hj : j < 16) : (M.octs b)[j]?.getD 0 = M.oc b j := by simp [M.octs, hj]
theorem octs_fits (b : M.Blk) : ∀ x ∈ M.octs b, 0 ≤ x ∧ x ≤ 255 := by
  intro x hx
  obtain ⟨j, _, rfl⟩ := List.mem_map.1 hx
  exact ⟨M.oc_0 b j, M.oc_1 b j⟩
theorem Bs.of_box {W : World} {g : Nat} {b : M.Blk} (h : Bx16 W g (M.oc b)) : Bs W (.slice (some ⟨g, 0, none⟩) 16 16) (M.octs b) := by
  refine ⟨_, _, by rw [octs_length], by rw [octs_length]; exact Nat.le_refl _, by simp [maxLen], octs_fits b, fun _ => ⟨g, 0, rfl, h.lt, fun j hj => ?_⟩⟩
  rw [octs_length] at hj
  rw [Nat.zero_add, octs_get b j hj]; exact h.cell j hj
set_option maxHeartbeats 1000000 in
theorem octets_any (b : M.Blk) (w : World) :
    Calls Try.prog 27 #[blkV b] w fun e w' => ∃ g, e = .returned (.slice (some ⟨g, 0, none⟩) 16 16) ∧ Bx16 w' g (M.oc b) ∧ w.heap.size ≤ g ∧ Below w.heap.size w w' := by
  unfold blkV
  go_enter Try.func27, Try.ntmps27
  go_wp2_with (first | (go_at_call 36; refine (octetsOf_any b _).mono ?_; rintro e w1 ⟨he, hb1⟩; unfold octV at he; subst he))
  go_ret
  refine ⟨_, rfl, Bx16.new w1 (M.oc b), ?_, below_one (below_trans (below_one (Below.refl _ _)) hb1)⟩
  have := hb1.size
  simp at this
  omega
def M.ofV (L : List Int) : M.Blk := if L.length = 16 then M.ofOct (M.fillF L) else (0#64, 0#64)
def M.ofE (L : List Int) : Int := if L.length = 16 then 0 else 2
set_option maxHeartbeats 1000000 in
theorem of_any (L : List Int) (v : Value) (w : World) (hu : Bs w v L) :
    Calls Try.prog 23 #[v] w fun e w' => e = .returned (.tuple #[blkV (M.ofV L), .int .i64 (M.ofE L)]) ∧ Below w.heap.size w w' := by
  have hU := hid' hu
  obtain ⟨ao, cap, rfl, q1, q2, q3, q4⟩ := hu
  unfold blkV
  by_cases h16 : L.length = 16
  · have hv : M.ofV L = M.ofOct (M.fillF L) := if_pos h16
    have he : M.ofE L = 0 := if_pos h16
    rw [hv, he]
    have hz := Bx2.new w (0#64, 0#64)
    have HO := hid' (fillF_oct q3)
    have HZ := hid' hz
    clear hv he hz q4 q3
    rw [h16] at hU ⊢
    clear q1 h16
    go_enter Try.func23, Try.ntmps23
    go_wp2_with (first | (go_at_call 31; refine (filled_any L _ _ (hU.out.alloc _)).mono ?_; rintro e w1 ⟨he, hb1⟩; have hz1 := Bx2.below (B := w.heap.size) (b := (0#64, 0#64)) (by exact HZ.out) hb1; subst he) | (go_at_call 32; refine (block_any (M.fillF L) _ HO.out).mono ?_; rintro e w2 ⟨he, hb2⟩; unfold blkV at he; subst he; have hz2 := hz1.below hb2; obtain ⟨gc0, gc1, gf0, gf1⟩ := hz2.facts))
    refine bodyPost_ret (v := .tuple #[.agg #[.int .u64 _, .int .u64 _], .int .i64 0]) (by simp [results, Try.results23, go_sem, gc0, gc1]) rfl ⟨rfl, ?_⟩
    exact below_set2 (below_trans (below_trans (below_one (Below.refl _ _)) hb1) hb2) (Nat.le_refl _) _ _
  · have hv : M.ofV L = (0#64, 0#64) := if_neg h16
    have he : M.ofE L = 2 := if_neg h16
    have h16i : ¬ (L.length : Int) = 16 := by omega
    rw [hv, he]
    clear hv he q4 q3
    go_enter Try.func23, Try.ntmps23
    go_wp2
    refine bodyPost_ret (v := .tuple #[.agg #[.int .u64 0, .int .u64 0], .int .i64 2]) (by simp [results, Try.results23, go_sem]) rfl ⟨rfl, ?_⟩
    exact below_one (Below.refl _ _)
end Go.Proofs.Ytfedmkklpambgaa
