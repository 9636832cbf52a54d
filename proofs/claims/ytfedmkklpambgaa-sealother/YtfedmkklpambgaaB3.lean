/-
  What Part comes to at every input, in the program and in the document's own answer. No condition.
-/
import Derived.Test.YtfedmkklpambgaaB2
namespace Go.Proofs.Ytfedmkklpambgaa
open Go.RowKit
theorem xor_at (a b : M.Blk) (w : World) :
    Calls Try.prog 19 #[.agg #[.int .u64 (M.nu a.1), .int .u64 (M.nu a.2)], .agg #[.int .u64 (M.nu b.1), .int .u64 (M.nu b.2)]] w fun e w' => e = .returned (.agg #[.int .u64 (M.nu (M.xor a b).1), .int .u64 (M.nu (M.xor a b).2)]) ∧ Below w.heap.size w w' := xor_any a b w
theorem rxor_at (a b : M.Blk) (w : World) :
    Calls Try.prog 22 #[.agg #[.int .u64 (M.nu a.1), .int .u64 (M.nu a.2)], .agg #[.int .u64 (M.nu b.1), .int .u64 (M.nu b.2)]] w fun e w' => e = .returned (.agg #[.int .u64 (M.nu (M.xor a b).1), .int .u64 (M.nu (M.xor a b).2)]) ∧ Below w.heap.size w w' := rxor_any a b w
theorem mix_at (a : M.Blk) (w : World) :
    Calls Try.prog 34 #[.agg #[.int .u64 (M.nu a.1), .int .u64 (M.nu a.2)]] w fun e w' => e = .returned (.agg #[.int .u64 (M.nu (M.mix a).1), .int .u64 (M.nu (M.mix a).2)]) ∧ Below w.heap.size w w' := mix_any a w
theorem rmix_at (a : M.Blk) (w : World) :
    Calls Try.prog 30 #[.agg #[.int .u64 (M.nu a.1), .int .u64 (M.nu a.2)]] w fun e w' => e = .returned (.agg #[.int .u64 (M.nu (M.mix a).1), .int .u64 (M.nu (M.mix a).2)]) ∧ Below w.heap.size w w' := rmix_any a w
theorem arg_u64 (i : Int) (h0 : 0 ≤ i) (h1 : i ≤ 4) : M.nu (BitVec.ofInt 64 (i + 1)) = i + 1 := M.nu_of _ (by omega) (by omega)
def M.mark (i : Int) : M.Blk := (BitVec.ofInt 64 (i + 1), 0#64)
theorem xor_mark (b : M.Blk) (i : Int) (w : World) (h0 : 0 ≤ i) (h1 : i ≤ 4) :
    Calls Try.prog 19 #[.agg #[.int .u64 (M.nu b.1), .int .u64 (M.nu b.2)], .agg #[.int .u64 (i + 1), .int .u64 0]] w fun e w' => e = .returned (.agg #[.int .u64 (M.nu (M.xor b (M.mark i)).1), .int .u64 (M.nu (M.xor b (M.mark i)).2)]) ∧ Below w.heap.size w w' := by
  rw [← arg_u64 i h0 h1]; exact xor_any b (M.mark i) w
/-- a part of a block, or nothing -/
def M.partV (b : M.Blk) (i : Int) : M.Blk := if 0 ≤ i ∧ i ≤ 4 then M.xor (M.mix (M.xor b (M.mark i))) b else (0#64, 0#64)
def M.partE (i : Int) : Int := if 0 ≤ i ∧ i ≤ 4 then 0 else 1
theorem box2 (w : World) (b : M.Blk) (X : World) (hX : X = (w.alloc (.cells #[.int .u64 (M.nu b.1), .int .u64 (M.nu b.2)] 24)).alloc (.cells #[.int .u64 0, .int .u64 0] 24)) : Bx2 X w.heap.size b ∧ Bx2 X (w.heap.size + 1) (0#64, 0#64) ∧ Below w.heap.size w X := by
  subst hX
  refine ⟨(Bx2.new w b).alloc _, ?_, below_one (below_one (Below.refl _ _))⟩
  have := Bx2.new (w.alloc (.cells #[.int .u64 (M.nu b.1), .int .u64 (M.nu b.2)] 24)) (0#64, 0#64)
  rwa [World.size_alloc] at this
set_option maxHeartbeats 1000000 in
theorem part_any (b : M.Blk) (i : Int) (w : World) :
    Calls Try.prog 25 #[blkV b, .int .i64 i] w fun e w' => e = .returned (.tuple #[blkV (M.partV b i), .int .i64 (M.partE i)]) ∧ Below w.heap.size w w' := by
  by_cases h0 : 0 ≤ i
  · by_cases h1 : i ≤ 4
    · have hv : M.partV b i = M.xor (M.mix (M.xor b (M.mark i))) b := if_pos ⟨h0, h1⟩
      have he : M.partE i = 0 := if_pos ⟨h0, h1⟩
      rw [hv, he]
      clear hv he
      have T1 := hid' trivial
      unfold blkV
      go_enter Try.func25, Try.ntmps25
      go_wp2_with (first | (go_at_call 19; clear T1; refine (xor_mark _ _ _ (by omega) (by omega)).mono ?_; rintro e w1 ⟨rfl, hb1⟩; obtain ⟨q1, q2, q3⟩ := box2 w b _ rfl; have hx1 := q1.below hb1; have hz1 := q2.below hb1; have hB1 := below_trans q3 hb1; clear q1 q2 q3 hb1))
      have hm := Bx2.new w1 (M.xor b (M.mark i))
      have hx := hx1.alloc (.cells #[.int .u64 (M.nu (M.xor b (M.mark i)).1), .int .u64 (M.nu (M.xor b (M.mark i)).2)] 24)
      have hz := hz1.alloc (.cells #[.int .u64 (M.nu (M.xor b (M.mark i)).1), .int .u64 (M.nu (M.xor b (M.mark i)).2)] 24)
      have hB := below_one hB1 (o := .cells #[.int .u64 (M.nu (M.xor b (M.mark i)).1), .int .u64 (M.nu (M.xor b (M.mark i)).2)] 24)
      generalize w1.alloc (.cells #[.int .u64 (M.nu (M.xor b (M.mark i)).1), .int .u64 (M.nu (M.xor b (M.mark i)).2)] 24) = W2 at *
      generalize w1.heap.size = G at *
      clear hx1 hz1 hB1
      obtain ⟨hc0, hc1, hf0, hf1⟩ := hx.facts
      obtain ⟨mc0, mc1, mf0, mf1⟩ := hm.facts
      go_region_with (first | (go_at_call 34; refine (mix_at (M.xor b (M.mark i)) _).mono ?_; rintro e w2 ⟨rfl, hb2⟩; have hx2 := Bx2.below (B := w.heap.size) (b := b) (by exact hx) hb2; have hz2 := Bx2.below (B := w.heap.size + 1) (b := (0#64, 0#64)) (by exact hz) hb2; have hB2 := below_trans (w1 := W2) hB ⟨hb2.os, hb2.tape, hb2.output, hb2.size, hb2.block⟩; obtain ⟨xc0, xc1, xf0, xf1⟩ := hx2.facts; clear hb2) | (go_at_call 19; refine (xor_at (M.mix (M.xor b (M.mark i))) b _).mono ?_; rintro e w3 ⟨rfl, hb3⟩; have hz3 := Bx2.below (B := w.heap.size + 1) (b := (0#64, 0#64)) (by exact hz2) hb3; have hB3 := below_trans (w1 := w2) hB2 ⟨hb3.os, hb3.tape, hb3.output, hb3.size, hb3.block⟩; obtain ⟨zc0, zc1, zf0, zf1⟩ := hz3.facts; clear hb3))
      all_goals go_wp2
      all_goals refine bodyPost_ret (v := .tuple #[.agg #[.int .u64 _, .int .u64 _], .int .i64 0]) (by simp [results, Try.results25, go_sem, zc0, zc1]) rfl ⟨rfl, below_set2 hB3 (by omega) _ _⟩
    · have hv : M.partV b i = (0#64, 0#64) := if_neg (by omega)
      have he : M.partE i = 1 := if_neg (by omega)
      rw [hv, he]
      unfold blkV
      go_enter Try.func25, Try.ntmps25
      go_wp2
      refine bodyPost_ret (v := .tuple #[.agg #[.int .u64 0, .int .u64 0], .int .i64 1]) (by simp [results, Try.results25, go_sem]) rfl ⟨rfl, ?_⟩
      (repeat' (first | exact Below.refl _ _ | with_reducible refine below_set ?_ (by simp; try omega) _ | with_reducible refine below_one ?_ | with_reducible refine below_dr ?_ _ | with_reducible refine below_d1 ?_))
  · have hv : M.partV b i = (0#64, 0#64) := if_neg (by omega)
    have he : M.partE i = 1 := if_neg (by omega)
    rw [hv, he]
    unfold blkV
    go_enter Try.func25, Try.ntmps25
    go_wp2
    refine bodyPost_ret (v := .tuple #[.agg #[.int .u64 0, .int .u64 0], .int .i64 1]) (by simp [results, Try.results25, go_sem]) rfl ⟨rfl, ?_⟩
    (repeat' (first | exact Below.refl _ _ | with_reducible refine below_set ?_ (by simp; try omega) _ | with_reducible refine below_one ?_ | with_reducible refine below_dr ?_ _ | with_reducible refine below_d1 ?_))
theorem mark_xor (b : M.Blk) (i : Int) (h0 : 0 ≤ i) (h1 : i ≤ 4) : bits .xor .u64 (M.nu b.1) (i + 1) = M.nu (M.xor b (M.mark i)).1 ∧ M.nu b.2 = M.nu (M.xor b (M.mark i)).2 := by
  have e := arg_u64 i h0 h1
  constructor
  · rw [← e, M.nu_xor]; rfl
  · unfold M.xor M.mark; dsimp only; rw [BitVec.xor_zero]
theorem rmix_mark (b : M.Blk) (i : Int) (w : World) (h0 : 0 ≤ i) (h1 : i ≤ 4) :
    Calls Try.prog 30 #[.agg #[.int .u64 (M.nu (M.xor b (M.mark i)).1), .int .u64 (M.nu b.2)]] w fun e w' => e = .returned (.agg #[.int .u64 (M.nu (M.mix (M.xor b (M.mark i))).1), .int .u64 (M.nu (M.mix (M.xor b (M.mark i))).2)]) ∧ Below w.heap.size w w' := by
  obtain ⟨_, h2⟩ := mark_xor b i h0 h1
  rw [h2]; exact rmix_any _ w
theorem mark_wrap (b : M.Blk) (i : Int) (h0 : 0 ≤ i) (h1 : i ≤ 4) : bits .xor .u64 (M.nu b.1) (IntKind.u64.wrap (IntKind.i64.wrap (i + 1))) = M.nu (M.xor b (M.mark i)).1 := by
  have e : IntKind.u64.wrap (IntKind.i64.wrap (i + 1)) = i + 1 := by
    have e1 : IntKind.i64.wrap (i + 1) = i + 1 := by simp [IntKind.wrap, IntKind.bits, IntKind.signed]; omega
    rw [e1, IntKind.wrap_u64]; omega
  rw [e]; exact (mark_xor b i h0 h1).1
set_option maxHeartbeats 1000000 in
theorem rpart_any (b : M.Blk) (i : Int) (w : World) :
    Calls Try.prog 21 #[blkV b, .int .i64 i] w fun e w' => e = .returned (.tuple #[blkV (M.partV b i), .int .i64 (M.partE i)]) ∧ Below w.heap.size w w' := by
  by_cases h0 : 0 ≤ i
  · by_cases h1 : i ≤ 4
    · have hv : M.partV b i = M.xor (M.mix (M.xor b (M.mark i))) b := if_pos ⟨h0, h1⟩
      have he : M.partE i = 0 := if_pos ⟨h0, h1⟩
      rw [hv, he]
      clear hv he
      have ew := mark_wrap b i h0 h1
      unfold blkV
      go_enter Try.func21, Try.ntmps21
      go_wp2
      obtain ⟨hx, hz, hB⟩ := box2 w b _ rfl
      generalize (w.alloc (.cells #[.int .u64 (M.nu b.1), .int .u64 (M.nu b.2)] 24)).alloc (.cells #[.int .u64 0, .int .u64 0] 24) = W2 at *
      obtain ⟨hc0, hc1, hf0, hf1⟩ := hx.facts
      go_region_with (first | (go_at_call 30; refine (rmix_mark b i _ (by omega) (by omega)).mono ?_; rintro e w2 ⟨rfl, hb2⟩; have hx2 := Bx2.below (B := w.heap.size) (b := b) (by exact hx) hb2; have hz2 := Bx2.below (B := w.heap.size + 1) (b := (0#64, 0#64)) (by exact hz) hb2; have hB2 := below_trans (w1 := W2) hB ⟨hb2.os, hb2.tape, hb2.output, hb2.size, hb2.block⟩; obtain ⟨xc0, xc1, xf0, xf1⟩ := hx2.facts; clear hb2) | (go_at_call 22; refine (rxor_at (M.mix (M.xor b (M.mark i))) b _).mono ?_; rintro e w3 ⟨rfl, hb3⟩; have hz3 := Bx2.below (B := w.heap.size + 1) (b := (0#64, 0#64)) (by exact hz2) hb3; have hB3 := below_trans (w1 := w2) hB2 ⟨hb3.os, hb3.tape, hb3.output, hb3.size, hb3.block⟩; obtain ⟨zc0, zc1, zf0, zf1⟩ := hz3.facts; clear hb3))
      all_goals go_wp2
      all_goals refine bodyPost_ret (v := .tuple #[.agg #[.int .u64 _, .int .u64 _], .int .i64 0]) (by simp [results, Try.results21, go_sem, zc0, zc1]) rfl ⟨rfl, below_set2 hB3 (by omega) _ _⟩
    · have hv : M.partV b i = (0#64, 0#64) := if_neg (by omega)
      have he : M.partE i = 1 := if_neg (by omega)
      rw [hv, he]
      unfold blkV
      go_enter Try.func21, Try.ntmps21
      go_wp2
      refine bodyPost_ret (v := .tuple #[.agg #[.int .u64 0, .int .u64 0], .int .i64 1]) (by simp [results, Try.results21, go_sem]) rfl ⟨rfl, ?_⟩
      (repeat' (first | exact Below.refl _ _ | with_reducible refine below_set ?_ (by simp; try omega) _ | with_reducible refine below_one ?_ | with_reducible refine below_dr ?_ _ | with_reducible refine below_d1 ?_))
  · have hv : M.partV b i = (0#64, 0#64) := if_neg (by omega)
    have he : M.partE i = 1 := if_neg (by omega)
    rw [hv, he]
    unfold blkV
    go_enter Try.func21, Try.ntmps21
    go_wp2
    refine bodyPost_ret (v := .tuple #[.agg #[.int .u64 0, .int .u64 0], .int .i64 1]) (by simp [results, Try.results21, go_sem]) rfl ⟨rfl, ?_⟩
    (repeat' (first | exact Below.refl _ _ | with_reducible refine below_set ?_ (by simp; try omega) _ | with_reducible refine below_one ?_ | with_reducible refine below_dr ?_ _ | with_reducible refine below_d1 ?_))
end Go.Proofs.Ytfedmkklpambgaa
