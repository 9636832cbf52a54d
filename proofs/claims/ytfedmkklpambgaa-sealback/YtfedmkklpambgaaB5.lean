/-
  What the method block makes of sixteen octets. Condition: they are octets.
-/
import Derived.Test.YtfedmkklpambgaaB4
namespace Go.Proofs.Ytfedmkklpambgaa
open Go.RowKit
/-- the block so far, as the loop has it -/
def M.blkK (f : Nat → Int) (k : Nat) : M.Blk := (BitVec.ofInt 64 (M.numK f 0 (min k 8)), BitVec.ofInt 64 (M.numK f 8 (k - 8)))
theorem nu_numK {f : Nat → Int} {o : Nat} (hf : ∀ j, j < 8 → 0 ≤ f (o + j) ∧ f (o + j) ≤ 255) (k : Nat) (hk : k ≤ 8) : M.nu (BitVec.ofInt 64 (M.numK f o k)) = M.numK f o k := by
  obtain ⟨h1, h2⟩ := M.numK_bd hf k hk
  have h7 : (2 : Int) ^ (8 * k) ≤ 2 ^ 64 := by
    have : (2 : Nat) ^ (8 * k) ≤ 2 ^ 64 := Nat.pow_le_pow_right (by decide) (by omega)
    exact_mod_cast this
  have h11 : (2 : Int) ^ 64 = 18446744073709551616 := by decide
  exact M.nu_of _ h1 (by omega)
theorem oct_lo {f : Nat → Int} (h : M.Oct f) : ∀ j, j < 8 → 0 ≤ f (0 + j) ∧ f (0 + j) ≤ 255 := fun j hj => h _ (by omega)
theorem oct_hi {f : Nat → Int} (h : M.Oct f) : ∀ j, j < 8 → 0 ≤ f (8 + j) ∧ f (8 + j) ≤ 255 := fun j hj => h _ (by omega)
theorem blkK_low {f : Nat → Int} (h : M.Oct f) (k : Nat) (hk : k < 8) : bits .or .u64 (M.nu (M.blkK f k).1) (IntKind.u64.wrap (f k * 2 ^ (8 * k))) = M.nu (M.blkK f (k + 1)).1 ∧ (M.blkK f (k + 1)).2 = (M.blkK f k).2 := by
  unfold M.blkK
  dsimp only
  rw [Nat.min_eq_left (by omega : k ≤ 8), Nat.min_eq_left (by omega : k + 1 ≤ 8), nu_numK (oct_lo h) k (by omega), nu_numK (oct_lo h) (k + 1) (by omega)]
  have := M.num_or (oct_lo h) k hk
  rw [Nat.zero_add] at this
  exact ⟨this, by rw [show k + 1 - 8 = k - 8 by omega]⟩
theorem blkK_high {f : Nat → Int} (h : M.Oct f) (k m : Nat) (hk : k = 8 + m) (hm : m < 8) : bits .or .u64 (M.nu (M.blkK f k).2) (IntKind.u64.wrap (f k * 2 ^ (8 * m))) = M.nu (M.blkK f (k + 1)).2 ∧ (M.blkK f (k + 1)).1 = (M.blkK f k).1 := by
  subst hk
  unfold M.blkK
  dsimp only
  rw [show 8 + m - 8 = m by omega, show 8 + m + 1 - 8 = m + 1 by omega, nu_numK (oct_hi h) m (by omega), nu_numK (oct_hi h) (m + 1) (by omega), Nat.min_eq_right (by omega : 8 ≤ 8 + m), Nat.min_eq_right (by omega : 8 ≤ 8 + m + 1)]
  exact ⟨M.num_or (oct_hi h) m hm, rfl⟩
theorem blkK_16 (f : Nat → Int) : M.blkK f 16 = M.ofOct f := by
  unfold M.blkK M.ofOct
  rw [show min 16 8 = 8 by decide, show 16 - 8 = 8 by decide, M.numK_8, M.numK_8]
theorem Bx2.setA {W : World} {B : Nat} {b : M.Blk} (h : Bx2 W B b) (x : BitVec 64) : Bx2 (W.setCell ⟨B, 0, none⟩ (.int .u64 (M.nu x))) B (x, b.2) := by
  have h' : W.heap[B]? = _ := h
  unfold Bx2
  simp only [World.setCell, Array.getElem?_modify, if_true, h', Option.map_some]
  rfl
theorem Bx2.setB {W : World} {B : Nat} {b : M.Blk} (h : Bx2 W B b) (x : BitVec 64) : Bx2 (W.setCell ⟨B, 1, none⟩ (.int .u64 (M.nu x))) B (b.1, x) := by
  have h' : W.heap[B]? = _ := h
  unfold Bx2
  simp only [World.setCell, Array.getElem?_modify, if_true, h', Option.map_some]
  rfl
set_option maxHeartbeats 1000000 in
theorem block_any (f : Nat → Int) (w : World) (hf : M.Oct f) :
    Calls Try.prog 32 #[octV f] w fun e w' => e = .returned (blkV (M.ofOct f)) ∧ Below w.heap.size w w' := by
  unfold octV blkV
  go_enter Try.func32, Try.ntmps32
  go_wp2
  go_loopw [5] (fun i wr => ∃ k : Nat, k ≤ 16 ∧ i = .int .i64 k ∧ Bx16 wr w.heap.size f ∧ Bx2 wr (w.heap.size + 1) (0#64, 0#64) ∧ Bx2 wr (w.heap.size + 1 + 1) (M.blkK f k) ∧ Below w.heap.size w wr) (fun i _ => 16 - (intOf i).toNat)
  case atStart =>
    refine ⟨0, by omega, rfl, ((Bx16.new w f).alloc _).alloc _, ?_, ?_, below_one (below_one (below_one (Below.refl _ _)))⟩
    · have h := (Bx2.new (w.alloc (.cells (octC f) 48)) (0#64, 0#64)).alloc (.cells #[.int .u64 0, .int .u64 0] 24)
      rw [World.size_alloc] at h; exact h
    · have h := Bx2.new ((w.alloc (.cells (octC f) 48)).alloc (.cells #[.int .u64 0, .int .u64 0] 24)) (0#64, 0#64)
      rw [World.size_alloc, World.size_alloc] at h; exact h
  case round =>
    obtain ⟨k, hk, rfl, hx, hz, hy, hb⟩ := hrel
    obtain ⟨hc0, hc1, hf0, hf1⟩ := hy.facts
    by_cases hlt : k < 16
    · have ho := hx.cell k hlt
      obtain ⟨fb0, fb1⟩ := hf k hlt
      by_cases h8 : k < 8
      · have q1 : (k : Int) / 8 = 0 := by omega
        have q2 : (k : Int) % 8 = k := by omega
        obtain ⟨e1, e2⟩ := blkK_low hf k h8
        go_wp2
        go_region
        go_wp2
        go_roundw
        case rel => exact ⟨k + 1, by omega, by go_num, hx.other (by simp; omega) _, hz.other (by simp) _, by have := hy.setA (M.blkK f (k + 1)).1; rw [← e2] at this; exact this, (below_d1 hb).setCell (by simp; omega) _⟩
        case measure => simp [intOf]; omega
      · obtain ⟨m, hm⟩ : ∃ m, k = 8 + m := ⟨k - 8, by omega⟩
        have q1 : (k : Int) / 8 = 1 := by omega
        have q2 : (k : Int) % 8 = m := by omega
        have hm8 : m < 8 := by omega
        obtain ⟨e1, e2⟩ := blkK_high hf k m hm hm8
        have HM := hid' hm
        clear hm
        go_wp2
        go_region
        go_wp2
        go_roundw
        case rel => exact ⟨k + 1, by omega, by go_num, hx.other (by simp; omega) _, hz.other (by simp) _, by have := hy.setB (M.blkK f (k + 1)).2; rw [← e2] at this; exact this, (below_d1 hb).setCell (by simp; omega) _⟩
        case measure => simp [intOf]; omega
    · have hk16 : k = 16 := by omega
      rw [hk16, blkK_16] at hc0 hc1
      obtain ⟨gc0, gc1, gf0, gf1⟩ := hz.facts
      clear hk16 hf0 hf1
      go_wp2
      refine bodyPost_ret (v := .agg #[.int .u64 _, .int .u64 _]) (by simp [results, Try.results32, go_sem, gc0, gc1]) rfl ⟨rfl, ?_⟩
      exact below_set2 hb (by omega) _ _
end Go.Proofs.Ytfedmkklpambgaa
