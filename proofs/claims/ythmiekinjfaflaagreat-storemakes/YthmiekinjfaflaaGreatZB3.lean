/-
  What Part comes to at every input, in the program and in the document's own answer. No condition.
-/
import Derived.Test.YthmiekinjfaflaaGreatZNM
namespace Go.Proofs.YthmiekinjfaflaaGreat
open Go.RowKit
set_option maxRecDepth 100000 in
theorem xor_at (a b : M.Blk) (w : World) :
    Calls Tryz.prog 105 #[.agg #[.int .u64 (M.nu a.1), .int .u64 (M.nu a.2)], .agg #[.int .u64 (M.nu b.1), .int .u64 (M.nu b.2)]] w fun e w' => e = .returned (.agg #[.int .u64 (M.nu (M.xor a b).1), .int .u64 (M.nu (M.xor a b).2)]) ∧ Below w.heap.size w w' := xor_any a b w
set_option maxRecDepth 100000 in
theorem rxor_at (a b : M.Blk) (w : World) :
    Calls Tryz.prog 79 #[.agg #[.int .u64 (M.nu a.1), .int .u64 (M.nu a.2)], .agg #[.int .u64 (M.nu b.1), .int .u64 (M.nu b.2)]] w fun e w' => e = .returned (.agg #[.int .u64 (M.nu (M.xor a b).1), .int .u64 (M.nu (M.xor a b).2)]) ∧ Below w.heap.size w w' := rxor_any a b w
set_option maxRecDepth 100000 in
theorem mix_at (a : M.Blk) (w : World) :
    Calls Tryz.prog 106 #[.agg #[.int .u64 (M.nu a.1), .int .u64 (M.nu a.2)]] w fun e w' => e = .returned (.agg #[.int .u64 (M.nu (M.mix a).1), .int .u64 (M.nu (M.mix a).2)]) ∧ Below w.heap.size w w' := mix_any a w
set_option maxRecDepth 100000 in
theorem rmix_at (a : M.Blk) (w : World) :
    Calls Tryz.prog 80 #[.agg #[.int .u64 (M.nu a.1), .int .u64 (M.nu a.2)]] w fun e w' => e = .returned (.agg #[.int .u64 (M.nu (M.mix a).1), .int .u64 (M.nu (M.mix a).2)]) ∧ Below w.heap.size w w' := rmix_any a w
theorem arg_u64 (i : Int) (h0 : 0 ≤ i) (h1 : i ≤ 4) : M.nu (BitVec.ofInt 64 (i + 1)) = i + 1 := M.nu_of _ (by omega) (by omega)
def M.mark (i : Int) : M.Blk := (BitVec.ofInt 64 (i + 1), 0#64)
set_option maxRecDepth 100000 in
theorem xor_mark (b : M.Blk) (i : Int) (w : World) (h0 : 0 ≤ i) (h1 : i ≤ 4) :
    Calls Tryz.prog 105 #[.agg #[.int .u64 (M.nu b.1), .int .u64 (M.nu b.2)], .agg #[.int .u64 (i + 1), .int .u64 0]] w fun e w' => e = .returned (.agg #[.int .u64 (M.nu (M.xor b (M.mark i)).1), .int .u64 (M.nu (M.xor b (M.mark i)).2)]) ∧ Below w.heap.size w w' := by
  rw [← arg_u64 i h0 h1]; exact xor_any b (M.mark i) w
/-- a part of a block, or nothing -/
def M.partV (b : M.Blk) (i : Int) : M.Blk := if 0 ≤ i ∧ i ≤ 4 then M.xor (M.mix (M.xor b (M.mark i))) b else (0#64, 0#64)
def M.partE (i : Int) : Int := if 0 ≤ i ∧ i ≤ 4 then 0 else 1
set_option maxRecDepth 100000 in
theorem box2 (w : World) (b : M.Blk) (X : World) (hX : X = (w.alloc (.cells #[.int .u64 (M.nu b.1), .int .u64 (M.nu b.2)] 25)).alloc (.cells #[.int .u64 0, .int .u64 0] 25)) : Bx2 X w.heap.size b ∧ Bx2 X (w.heap.size + 1) (0#64, 0#64) ∧ Below w.heap.size w X := by
  subst hX
  refine ⟨(Bx2.new w b).alloc _, ?_, below_one (below_one (Below.refl _ _))⟩
  have := Bx2.new (w.alloc (.cells #[.int .u64 (M.nu b.1), .int .u64 (M.nu b.2)] 25)) (0#64, 0#64)
  rwa [World.size_alloc] at this
set_option maxRecDepth 100000 in
set_option maxHeartbeats 1000000 in
theorem part_any (b : M.Blk) (i : Int) (w : World) :
    Calls Tryz.prog 99 #[blkV b, .int .i64 i] w fun e w' => e = .returned (.tuple #[blkV (M.partV b i), .int .i64 (M.partE i)]) ∧ Below w.heap.size w w' := by
  by_cases h0 : 0 ≤ i
  · by_cases h1 : i ≤ 4
    · have hv : M.partV b i = M.xor (M.mix (M.xor b (M.mark i))) b := if_pos ⟨h0, h1⟩
      have he : M.partE i = 0 := if_pos ⟨h0, h1⟩
      rw [hv, he]
      clear hv he
      have T1 := hid' trivial
      unfold blkV
      go_enter Tryz.func99, Tryz.ntmps99
      go_wp2_with (first | (go_at_call 105; clear T1; refine (xor_mark _ _ _ (by omega) (by omega)).mono ?_; rintro e w1 ⟨rfl, hb1⟩; obtain ⟨q1, q2, q3⟩ := box2 w b _ rfl; have hx1 := q1.below hb1; have hz1 := q2.below hb1; have hB1 := below_trans q3 hb1; clear q1 q2 q3 hb1))
      have hm := Bx2.new w1 (M.xor b (M.mark i))
      have hx := hx1.alloc (.cells #[.int .u64 (M.nu (M.xor b (M.mark i)).1), .int .u64 (M.nu (M.xor b (M.mark i)).2)] 25)
      have hz := hz1.alloc (.cells #[.int .u64 (M.nu (M.xor b (M.mark i)).1), .int .u64 (M.nu (M.xor b (M.mark i)).2)] 25)
      have hB := below_one hB1 (o := .cells #[.int .u64 (M.nu (M.xor b (M.mark i)).1), .int .u64 (M.nu (M.xor b (M.mark i)).2)] 25)
      generalize w1.alloc (.cells #[.int .u64 (M.nu (M.xor b (M.mark i)).1), .int .u64 (M.nu (M.xor b (M.mark i)).2)] 25) = W2 at *
      generalize w1.heap.size = G at *
      clear hx1 hz1 hB1
      obtain ⟨hc0, hc1, hf0, hf1⟩ := hx.facts
      obtain ⟨mc0, mc1, mf0, mf1⟩ := hm.facts
      go_region_with (first | (go_at_call 106; refine (mix_at (M.xor b (M.mark i)) _).mono ?_; rintro e w2 ⟨rfl, hb2⟩; have hx2 := Bx2.below (B := w.heap.size) (b := b) (by exact hx) hb2; have hz2 := Bx2.below (B := w.heap.size + 1) (b := (0#64, 0#64)) (by exact hz) hb2; have hB2 := below_trans (w1 := W2) hB ⟨hb2.os, hb2.tape, hb2.output, hb2.size, hb2.block⟩; obtain ⟨xc0, xc1, xf0, xf1⟩ := hx2.facts; clear hb2) | (go_at_call 105; refine (xor_at (M.mix (M.xor b (M.mark i))) b _).mono ?_; rintro e w3 ⟨rfl, hb3⟩; have hz3 := Bx2.below (B := w.heap.size + 1) (b := (0#64, 0#64)) (by exact hz2) hb3; have hB3 := below_trans (w1 := w2) hB2 ⟨hb3.os, hb3.tape, hb3.output, hb3.size, hb3.block⟩; obtain ⟨zc0, zc1, zf0, zf1⟩ := hz3.facts; clear hb3))
      all_goals go_wp2
      all_goals refine bodyPost_ret (v := .tuple #[.agg #[.int .u64 _, .int .u64 _], .int .i64 0]) (by simp [results, Tryz.results99, go_sem, zc0, zc1]) rfl ⟨rfl, below_set2 hB3 (by omega) _ _⟩
    · have hv : M.partV b i = (0#64, 0#64) := if_neg (by omega)
      have he : M.partE i = 1 := if_neg (by omega)
      rw [hv, he]
      unfold blkV
      go_enter Tryz.func99, Tryz.ntmps99
      go_wp2
      refine bodyPost_ret (v := .tuple #[.agg #[.int .u64 0, .int .u64 0], .int .i64 1]) (by simp [results, Tryz.results99, go_sem]) rfl ⟨rfl, ?_⟩
      (repeat' (first | exact Below.refl _ _ | with_reducible refine below_set ?_ (by simp; try omega) _ | with_reducible refine below_one ?_ | with_reducible refine below_dr ?_ _ | with_reducible refine below_d1 ?_))
  · have hv : M.partV b i = (0#64, 0#64) := if_neg (by omega)
    have he : M.partE i = 1 := if_neg (by omega)
    rw [hv, he]
    unfold blkV
    go_enter Tryz.func99, Tryz.ntmps99
    go_wp2
    refine bodyPost_ret (v := .tuple #[.agg #[.int .u64 0, .int .u64 0], .int .i64 1]) (by simp [results, Tryz.results99, go_sem]) rfl ⟨rfl, ?_⟩
    (repeat' (first | exact Below.refl _ _ | with_reducible refine below_set ?_ (by simp; try omega) _ | with_reducible refine below_one ?_ | with_reducible refine below_dr ?_ _ | with_reducible refine below_d1 ?_))
theorem mark_xor (b : M.Blk) (i : Int) (h0 : 0 ≤ i) (h1 : i ≤ 4) : bits .xor .u64 (M.nu b.1) (i + 1) = M.nu (M.xor b (M.mark i)).1 ∧ M.nu b.2 = M.nu (M.xor b (M.mark i)).2 := by
  have e := arg_u64 i h0 h1
  constructor
  · rw [← e, M.nu_xor]; rfl
  · unfold M.xor M.mark; dsimp only; rw [BitVec.xor_zero]
set_option maxRecDepth 100000 in
theorem rmix_mark (b : M.Blk) (i : Int) (w : World) (h0 : 0 ≤ i) (h1 : i ≤ 4) :
    Calls Tryz.prog 80 #[.agg #[.int .u64 (M.nu (M.xor b (M.mark i)).1), .int .u64 (M.nu b.2)]] w fun e w' => e = .returned (.agg #[.int .u64 (M.nu (M.mix (M.xor b (M.mark i))).1), .int .u64 (M.nu (M.mix (M.xor b (M.mark i))).2)]) ∧ Below w.heap.size w w' := by
  obtain ⟨_, h2⟩ := mark_xor b i h0 h1
  rw [h2]; exact rmix_any _ w
theorem mark_wrap (b : M.Blk) (i : Int) (h0 : 0 ≤ i) (h1 : i ≤ 4) : bits .xor .u64 (M.nu b.1) (IntKind.u64.wrap (IntKind.i64.wrap (i + 1))) = M.nu (M.xor b (M.mark i)).1 := by
  have e : IntKind.u64.wrap (IntKind.i64.wrap (i + 1)) = i + 1 := by
    have e1 : IntKind.i64.wrap (i + 1) = i + 1 := by simp [IntKind.wrap, IntKind.bits, IntKind.signed]; omega
    rw [e1, IntKind.wrap_u64]; omega
  rw [e]; exact (mark_xor b i h0 h1).1
set_option maxRecDepth 100000 in
set_option maxHeartbeats 1000000 in
theorem rpart_any (b : M.Blk) (i : Int) (w : World) :
    Calls Tryz.prog 63 #[blkV b, .int .i64 i] w fun e w' => e = .returned (.tuple #[blkV (M.partV b i), .int .i64 (M.partE i)]) ∧ Below w.heap.size w w' := by
  by_cases h0 : 0 ≤ i
  · by_cases h1 : i ≤ 4
    · have hv : M.partV b i = M.xor (M.mix (M.xor b (M.mark i))) b := if_pos ⟨h0, h1⟩
      have he : M.partE i = 0 := if_pos ⟨h0, h1⟩
      rw [hv, he]
      clear hv he
      have ew := mark_wrap b i h0 h1
      unfold blkV
      go_enter Tryz.func63, Tryz.ntmps63
      go_wp2
      obtain ⟨hx, hz, hB⟩ := box2 w b _ rfl
      generalize (w.alloc (.cells #[.int .u64 (M.nu b.1), .int .u64 (M.nu b.2)] 25)).alloc (.cells #[.int .u64 0, .int .u64 0] 25) = W2 at *
      obtain ⟨hc0, hc1, hf0, hf1⟩ := hx.facts
      go_region_with (first | (go_at_call 80; refine (rmix_mark b i _ (by omega) (by omega)).mono ?_; rintro e w2 ⟨rfl, hb2⟩; have hx2 := Bx2.below (B := w.heap.size) (b := b) (by exact hx) hb2; have hz2 := Bx2.below (B := w.heap.size + 1) (b := (0#64, 0#64)) (by exact hz) hb2; have hB2 := below_trans (w1 := W2) hB ⟨hb2.os, hb2.tape, hb2.output, hb2.size, hb2.block⟩; obtain ⟨xc0, xc1, xf0, xf1⟩ := hx2.facts; clear hb2) | (go_at_call 79; refine (rxor_at (M.mix (M.xor b (M.mark i))) b _).mono ?_; rintro e w3 ⟨rfl, hb3⟩; have hz3 := Bx2.below (B := w.heap.size + 1) (b := (0#64, 0#64)) (by exact hz2) hb3; have hB3 := below_trans (w1 := w2) hB2 ⟨hb3.os, hb3.tape, hb3.output, hb3.size, hb3.block⟩; obtain ⟨zc0, zc1, zf0, zf1⟩ := hz3.facts; clear hb3))
      all_goals go_wp2
      all_goals refine bodyPost_ret (v := .tuple #[.agg #[.int .u64 _, .int .u64 _], .int .i64 0]) (by simp [results, Tryz.results63, go_sem, zc0, zc1]) rfl ⟨rfl, below_set2 hB3 (by omega) _ _⟩
    · have hv : M.partV b i = (0#64, 0#64) := if_neg (by omega)
      have he : M.partE i = 1 := if_neg (by omega)
      rw [hv, he]
      unfold blkV
      go_enter Tryz.func63, Tryz.ntmps63
      go_wp2
      refine bodyPost_ret (v := .tuple #[.agg #[.int .u64 0, .int .u64 0], .int .i64 1]) (by simp [results, Tryz.results63, go_sem]) rfl ⟨rfl, ?_⟩
      (repeat' (first | exact Below.refl _ _ | with_reducible refine below_set ?_ (by simp; try omega) _ | with_reducible refine below_one ?_ | with_reducible refine below_dr ?_ _ | with_reducible refine below_d1 ?_))
  · have hv : M.partV b i = (0#64, 0#64) := if_neg (by omega)
    have he : M.partE i = 1 := if_neg (by omega)
    rw [hv, he]
    unfold blkV
    go_enter Tryz.func63, Tryz.ntmps63
    go_wp2
    refine bodyPost_ret (v := .tuple #[.agg #[.int .u64 0, .int .u64 0], .int .i64 1]) (by simp [results, Tryz.results63, go_sem]) rfl ⟨rfl, ?_⟩
    (repeat' (first | exact Below.refl _ _ | with_reducible refine below_set ?_ (by simp; try omega) _ | with_reducible refine below_one ?_ | with_reducible refine below_dr ?_ _ | with_reducible refine below_d1 ?_))
end Go.Proofs.YthmiekinjfaflaaGreat
namespace Go.Proofs.YthmiekinjfaflaaGreat
namespace M
/-- the j-th octet of a block -/
def oc (b : Blk) (j : Nat) : Int := nu (if j < 8 then b.1 else b.2) / 2 ^ (8 * (j % 8)) % 256
/-- the first k of them, zeros behind -/
def ocN (b : Blk) (k : Nat) (j : Nat) : Int := if j < k then oc b j else 0
theorem oc_0 (b : Blk) (j : Nat) : 0 ≤ oc b j := Int.emod_nonneg _ (by decide)
theorem oc_1 (b : Blk) (j : Nat) : oc b j ≤ 255 := by have := Int.emod_lt_of_pos (nu (if j < 8 then b.1 else b.2) / 2 ^ (8 * (j % 8))) (show (0:Int) < 256 by decide); unfold oc; omega
/-- the number of eight octets from o on, the lowest one first -/
def num (f : Nat → Int) (o : Nat) : Int := f o + 256 * f (o + 1) + 65536 * f (o + 2) + 16777216 * f (o + 3) + 4294967296 * f (o + 4) + 1099511627776 * f (o + 5) + 281474976710656 * f (o + 6) + 72057594037927936 * f (o + 7)
/-- the block of sixteen octets -/
def ofOct (f : Nat → Int) : Blk := (BitVec.ofInt 64 (num f 0), BitVec.ofInt 64 (num f 8))
/-- octets -/
def Oct (f : Nat → Int) : Prop := ∀ j, j < 16 → 0 ≤ f j ∧ f j ≤ 255
def numK (f : Nat → Int) (o : Nat) : Nat → Int
  | 0 => 0
  | k + 1 => numK f o k + f (o + k) * 2 ^ (8 * k)
theorem numK_8 (f : Nat → Int) (o : Nat) : numK f o 8 = num f o := by
  unfold num
  simp only [numK, Nat.add_zero]
  omega
theorem numK_bd {f : Nat → Int} {o : Nat} (hf : ∀ j, j < 8 → 0 ≤ f (o + j) ∧ f (o + j) ≤ 255) : ∀ k, k ≤ 8 → 0 ≤ numK f o k ∧ numK f o k < 2 ^ (8 * k)
  | 0, _ => by simp [numK]
  | k + 1, h => by
    obtain ⟨h1, h2⟩ := numK_bd hf k (by omega)
    obtain ⟨h3, h4⟩ := hf k (by omega)
    have h5 : (2 : Int) ^ (8 * (k + 1)) = 2 ^ (8 * k) * 256 := by rw [Nat.mul_add, Int.pow_add]; rfl
    have h6 : (0 : Int) < 2 ^ (8 * k) := Int.pow_pos (by decide)
    have h7 : f (o + k) * 2 ^ (8 * k) ≤ 255 * 2 ^ (8 * k) := Int.mul_le_mul_of_nonneg_right h4 (by omega)
    have h8 : 0 ≤ f (o + k) * 2 ^ (8 * k) := Int.mul_nonneg h3 (by omega)
    unfold numK
    rw [h5]
    omega
theorem num_bd {f : Nat → Int} {o : Nat} (hf : ∀ j, j < 8 → 0 ≤ f (o + j) ∧ f (o + j) ≤ 255) : 0 ≤ num f o ∧ num f o ≤ 18446744073709551615 := by
  have := numK_bd hf 8 (by omega)
  rw [numK_8] at this
  have h : (2 : Int) ^ (8 * 8) = 18446744073709551616 := by decide
  omega
/-- one more octet, by 'or' -/
theorem num_or {f : Nat → Int} {o : Nat} (hf : ∀ j, j < 8 → 0 ≤ f (o + j) ∧ f (o + j) ≤ 255) (k : Nat) (hk : k < 8) :
    bits .or .u64 (numK f o k) (IntKind.u64.wrap (f (o + k) * 2 ^ (8 * k))) = numK f o (k + 1) := by
  obtain ⟨h1, h2⟩ := numK_bd hf k (by omega)
  obtain ⟨h3, h4⟩ := numK_bd hf (k + 1) (by omega)
  obtain ⟨h5, h6⟩ := hf k hk
  have h7 : (2 : Int) ^ (8 * (k + 1)) ≤ 2 ^ 64 := by
    have : (2 : Nat) ^ (8 * (k + 1)) ≤ 2 ^ 64 := Nat.pow_le_pow_right (by decide) (by omega)
    exact_mod_cast this
  have h8 : (2 : Int) ^ (8 * k) ≤ 2 ^ (8 * (k + 1)) := by
    have : (2 : Nat) ^ (8 * k) ≤ 2 ^ (8 * (k + 1)) := Nat.pow_le_pow_right (by decide) (by omega)
    exact_mod_cast this
  have h9 : (0 : Int) < 2 ^ (8 * k) := Int.pow_pos (by decide)
  have h10 : 0 ≤ f (o + k) * 2 ^ (8 * k) := Int.mul_nonneg h5 (by omega)
  have h11 : (2 : Int) ^ 64 = 18446744073709551616 := by decide
  have h12 : numK f o (k + 1) = numK f o k + f (o + k) * 2 ^ (8 * k) := rfl
  rw [IntKind.wrap_u64, Int.emod_eq_of_lt h10 (by omega), h12]
  have eP : (2 : Int) ^ (8 * k) = ((2 ^ (8 * k) : Nat) : Int) := by rw [Int.natCast_pow]; rfl
  rw [h12] at h3 h4
  rw [eP] at h2 h8 h9 h10 h3 h4 ⊢
  generalize hP : 2 ^ (8 * k) = P at *
  generalize f (o + k) = y at *
  generalize numK f o k = x at *
  clear h12
  obtain ⟨a, rfl⟩ := Int.eq_ofNat_of_zero_le h5
  obtain ⟨c, rfl⟩ := Int.eq_ofNat_of_zero_le h1
  have hcl : c < 2 ^ (8 * k) := by rw [hP]; omega
  have e1 : (a : Int) * (P : Int) = ((P * a : Nat) : Int) := by rw [Int.natCast_mul, Int.mul_comm]
  rw [e1] at h3 h4 h10 ⊢
  rw [u64_or_nat _ _ (by omega) (by omega), Nat.or_comm]
  have e2 := Nat.two_pow_add_eq_or_of_lt hcl a
  rw [hP] at e2
  rw [← e2]
  omega
def hiK (f : Nat → Int) : Nat → Int
  | 0 => 0
  | r + 1 => 256 * hiK f r + f (7 - r)
theorem hiK_8 (f : Nat → Int) : hiK f 8 = num f 0 := by
  unfold num
  simp only [hiK, Nat.zero_add, Nat.reduceSub]
  omega
theorem hiK_bd {f : Nat → Int} (hf : ∀ j, j < 8 → 0 ≤ f j ∧ f j ≤ 255) : ∀ r, r ≤ 7 → 0 ≤ hiK f r ∧ hiK f r ≤ 72057594037927935
  | r, h => by
    have h0 := hf 0 (by omega); have h1 := hf 1 (by omega); have h2 := hf 2 (by omega); have h3 := hf 3 (by omega)
    have h4 := hf 4 (by omega); have h5 := hf 5 (by omega); have h6 := hf 6 (by omega); have h7 := hf 7 (by omega)
    have : r = 0 ∨ r = 1 ∨ r = 2 ∨ r = 3 ∨ r = 4 ∨ r = 5 ∨ r = 6 ∨ r = 7 := by omega
    rcases this with rfl | rfl | rfl | rfl | rfl | rfl | rfl | rfl <;> simp only [hiK, Nat.reduceSub] <;> omega
end M
end Go.Proofs.YthmiekinjfaflaaGreat
namespace Go.Proofs.YthmiekinjfaflaaGreat
open Go.RowKit
/-- sixteen octets as the program holds them -/
def octV (f : Nat → Int) : Value := .agg #[.int .u8 (f 0), .int .u8 (f 1), .int .u8 (f 2), .int .u8 (f 3), .int .u8 (f 4), .int .u8 (f 5), .int .u8 (f 6), .int .u8 (f 7), .int .u8 (f 8), .int .u8 (f 9), .int .u8 (f 10), .int .u8 (f 11), .int .u8 (f 12), .int .u8 (f 13), .int .u8 (f 14), .int .u8 (f 15)]
def octC (f : Nat → Int) : Array Value := #[.int .u8 (f 0), .int .u8 (f 1), .int .u8 (f 2), .int .u8 (f 3), .int .u8 (f 4), .int .u8 (f 5), .int .u8 (f 6), .int .u8 (f 7), .int .u8 (f 8), .int .u8 (f 9), .int .u8 (f 10), .int .u8 (f 11), .int .u8 (f 12), .int .u8 (f 13), .int .u8 (f 14), .int .u8 (f 15)]
theorem octC_get (f : Nat → Int) (j : Nat) (hj : j < 16) : (octC f)[j]? = some (.int .u8 (f j)) := by
  have : j = 0 ∨ j = 1 ∨ j = 2 ∨ j = 3 ∨ j = 4 ∨ j = 5 ∨ j = 6 ∨ j = 7 ∨ j = 8 ∨ j = 9 ∨ j = 10 ∨ j = 11 ∨ j = 12 ∨ j = 13 ∨ j = 14 ∨ j = 15 := by omega
  rcases this with rfl | rfl | rfl | rfl | rfl | rfl | rfl | rfl | rfl | rfl | rfl | rfl | rfl | rfl | rfl | rfl <;> rfl
theorem octC_size (f : Nat → Int) : (octC f).size = 16 := rfl
theorem octC_set (f : Nat → Int) (j : Nat) (v : Int) : (octC f).setIfInBounds j (.int .u8 v) = octC (fun i => if i = j then v else f i) := by
  apply Array.ext_getElem?
  intro i
  rw [Array.getElem?_setIfInBounds, octC_size]
  by_cases hi : i < 16
  · rw [octC_get _ i hi, octC_get _ i hi]
    by_cases h : j = i
    · subst h; simp [hi]
    · rw [if_neg h, if_neg (fun e => h e.symm)]
  · have h1 : (octC f)[i]? = none := Array.getElem?_eq_none (by rw [octC_size]; omega)
    have h2 : (octC (fun i => if i = j then v else f i))[i]? = none := Array.getElem?_eq_none (by rw [octC_size]; omega)
    rw [h1, h2]
    by_cases h : j = i
    · rw [if_pos h, if_neg (by omega)]
    · rw [if_neg h]
theorem octC_congr {f g : Nat → Int} (h : ∀ j, j < 16 → f j = g j) : octC f = octC g := by
  unfold octC
  rw [h 0 (by decide), h 1 (by decide), h 2 (by decide), h 3 (by decide), h 4 (by decide), h 5 (by decide), h 6 (by decide), h 7 (by decide), h 8 (by decide), h 9 (by decide), h 10 (by decide), h 11 (by decide), h 12 (by decide), h 13 (by decide), h 14 (by decide), h 15 (by decide)]
theorem octV_congr {f g : Nat → Int} (h : ∀ j, j < 16 → f j = g j) : octV f = octV g := congrArg Value.agg (octC_congr h)
theorem below_set16 {w W : World} {B : Nat} (h : Below w.heap.size w W) (hB : w.heap.size ≤ B) (g : Nat → Int) : Below w.heap.size w ((((((((((((((((W.setCell ⟨B, 0, none⟩ (.int .u8 (g 0))).setCell ⟨B, 1, none⟩ (.int .u8 (g 1))).setCell ⟨B, 2, none⟩ (.int .u8 (g 2))).setCell ⟨B, 3, none⟩ (.int .u8 (g 3))).setCell ⟨B, 4, none⟩ (.int .u8 (g 4))).setCell ⟨B, 5, none⟩ (.int .u8 (g 5))).setCell ⟨B, 6, none⟩ (.int .u8 (g 6))).setCell ⟨B, 7, none⟩ (.int .u8 (g 7))).setCell ⟨B, 8, none⟩ (.int .u8 (g 8))).setCell ⟨B, 9, none⟩ (.int .u8 (g 9))).setCell ⟨B, 10, none⟩ (.int .u8 (g 10))).setCell ⟨B, 11, none⟩ (.int .u8 (g 11))).setCell ⟨B, 12, none⟩ (.int .u8 (g 12))).setCell ⟨B, 13, none⟩ (.int .u8 (g 13))).setCell ⟨B, 14, none⟩ (.int .u8 (g 14))).setCell ⟨B, 15, none⟩ (.int .u8 (g 15))) :=
  ((((((((((((((((h.setCell (p := ⟨B, 0, none⟩) hB _).setCell (p := ⟨B, 1, none⟩) hB _).setCell (p := ⟨B, 2, none⟩) hB _).setCell (p := ⟨B, 3, none⟩) hB _).setCell (p := ⟨B, 4, none⟩) hB _).setCell (p := ⟨B, 5, none⟩) hB _).setCell (p := ⟨B, 6, none⟩) hB _).setCell (p := ⟨B, 7, none⟩) hB _).setCell (p := ⟨B, 8, none⟩) hB _).setCell (p := ⟨B, 9, none⟩) hB _).setCell (p := ⟨B, 10, none⟩) hB _).setCell (p := ⟨B, 11, none⟩) hB _).setCell (p := ⟨B, 12, none⟩) hB _).setCell (p := ⟨B, 13, none⟩) hB _).setCell (p := ⟨B, 14, none⟩) hB _).setCell (p := ⟨B, 15, none⟩) hB _)
theorem ocN_step (b : M.Blk) (k j : Nat) : (if j = k then M.oc b k else M.ocN b k j) = M.ocN b (k + 1) j := by
  unfold M.ocN
  by_cases h : j = k
  · subst h; rw [if_pos rfl, if_pos (by omega)]
  · rw [if_neg h]
    by_cases h2 : j < k
    · rw [if_pos h2, if_pos (by omega)]
    · rw [if_neg h2, if_neg (by omega)]
theorem oc_low (b : M.Blk) (k : Nat) (h : k < 8) : M.nu b.1 / 2 ^ (8 * k) % 256 = M.oc b k := by
  unfold M.oc; rw [if_pos h, Nat.mod_eq_of_lt h]
theorem oc_high (b : M.Blk) (k m : Nat) (h : k = m + 8) (hm : m < 8) : M.nu b.2 / 2 ^ (8 * m) % 256 = M.oc b k := by
  unfold M.oc; rw [if_neg (by omega), show k % 8 = m by omega]
end Go.Proofs.YthmiekinjfaflaaGreat
namespace Go.Proofs.YthmiekinjfaflaaGreat
open Go.RowKit
/-- the block so far, as the loop has it -/
def M.blkK (f : Nat → Int) (k : Nat) : M.Blk := (BitVec.ofInt 64 (M.numK f 0 (min k 8)), BitVec.ofInt 64 (M.numK f 8 (k - 8)))
theorem nu_numK {f : Nat → Int} {o : Nat} (hf : ∀ j, j < 8 → 0 ≤ f (o + j) ∧ f (o + j) ≤ 255) (k : Nat) (hk : k ≤ 8) : M.nu (BitVec.ofInt 64 (M.numK f o k)) = M.numK f o k := by
  obtain ⟨h1, h2⟩ := M.numK_bd hf k hk
  have h7 : (2 : Int) ^ (8 * k) ≤ 2 ^ 64 := by
    have : (2 : Nat) ^ (8 * k) ≤ 2 ^ 64 := Nat.pow_le_pow_right (by decide) (by omega)
    exact_mod_cast this
  have h11 : (2 : Int) ^ 64 = 18446744073709551616 := by decide
  exact M.nu_of _ h1 (by omega)
theorem oct_lo {f : Nat → Int} (h : M.Oct f) : ∀ j, j < 8 → 0 ≤ f (0 + j) ∧ f (0 + j) ≤ 255 := fun j hj => h _ (by omega)
theorem oct_hi {f : Nat → Int} (h : M.Oct f) : ∀ j, j < 8 → 0 ≤ f (8 + j) ∧ f (8 + j) ≤ 255 := fun j hj => h _ (by omega)
theorem blkK_low {f : Nat → Int} (h : M.Oct f) (k : Nat) (hk : k < 8) : bits .or .u64 (M.nu (M.blkK f k).1) (IntKind.u64.wrap (f k * 2 ^ (8 * k))) = M.nu (M.blkK f (k + 1)).1 ∧ (M.blkK f (k + 1)).2 = (M.blkK f k).2 := by
  unfold M.blkK
  dsimp only
  rw [Nat.min_eq_left (by omega : k ≤ 8), Nat.min_eq_left (by omega : k + 1 ≤ 8), nu_numK (oct_lo h) k (by omega), nu_numK (oct_lo h) (k + 1) (by omega)]
  have := M.num_or (oct_lo h) k hk
  rw [Nat.zero_add] at this
  exact ⟨this, by rw [show k + 1 - 8 = k - 8 by omega]⟩
theorem blkK_high {f : Nat → Int} (h : M.Oct f) (k m : Nat) (hk : k = 8 + m) (hm : m < 8) : bits .or .u64 (M.nu (M.blkK f k).2) (IntKind.u64.wrap (f k * 2 ^ (8 * m))) = M.nu (M.blkK f (k + 1)).2 ∧ (M.blkK f (k + 1)).1 = (M.blkK f k).1 := by
  subst hk
  unfold M.blkK
  dsimp only
  rw [show 8 + m - 8 = m by omega, show 8 + m + 1 - 8 = m + 1 by omega, nu_numK (oct_hi h) m (by omega), nu_numK (oct_hi h) (m + 1) (by omega), Nat.min_eq_right (by omega : 8 ≤ 8 + m), Nat.min_eq_right (by omega : 8 ≤ 8 + m + 1)]
  exact ⟨M.num_or (oct_hi h) m hm, rfl⟩
theorem blkK_16 (f : Nat → Int) : M.blkK f 16 = M.ofOct f := by
  unfold M.blkK M.ofOct
  rw [show min 16 8 = 8 by decide, show 16 - 8 = 8 by decide, M.numK_8, M.numK_8]
theorem Bx2.setA {W : World} {B : Nat} {b : M.Blk} (h : Bx2 W B b) (x : BitVec 64) : Bx2 (W.setCell ⟨B, 0, none⟩ (.int .u64 (M.nu x))) B (x, b.2) := by
  have h' : W.heap[B]? = _ := h
  unfold Bx2
  simp only [World.setCell, Array.getElem?_modify, if_true, h', Option.map_some]
  rfl
theorem Bx2.setB {W : World} {B : Nat} {b : M.Blk} (h : Bx2 W B b) (x : BitVec 64) : Bx2 (W.setCell ⟨B, 1, none⟩ (.int .u64 (M.nu x))) B (b.1, x) := by
  have h' : W.heap[B]? = _ := h
  unfold Bx2
  simp only [World.setCell, Array.getElem?_modify, if_true, h', Option.map_some]
  rfl
end Go.Proofs.YthmiekinjfaflaaGreat
