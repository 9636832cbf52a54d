/-
  What Mix, Unmix and Part come to at every input, in the program and in the document's own answer. No condition.
-/
import Derived.Test.YthbacijbgjmigaaZB1
import Derived.Deep.RegionWith
namespace Go.Proofs.Ythbacijbgjmigaa
open Go.RowKit
theorem nat_u64 (n : Nat) (h : n < 18446744073709551616) : Value.int .u64 (n : Int) = .int .u64 (M.nu (BitVec.ofNat 64 n)) := by rw [M.nu_nat n h]
theorem blkV_eq (b : M.Blk) : blkV b = .agg #[.int .u64 (M.nu b.1), .int .u64 (M.nu b.2)] := rfl
theorem below_set2 {w W : World} {B : Nat} (h : Below w.heap.size w W) (hB : w.heap.size ≤ B) (u v : Value) : Below w.heap.size w ((W.setCell ⟨B, 0, none⟩ u).setCell ⟨B, 1, none⟩ v) := (h.setCell hB _).setCell hB _
theorem round_at (c : M.Blk) (k : Nat) (w : World) (hk : k < 18446744073709551616) :
    Calls Try.prog 64 #[.agg #[.int .u64 (M.nu c.1), .int .u64 (M.nu c.2)], .int .u64 (k : Int)] w fun e w' => e = .returned (.agg #[.int .u64 (M.nu (M.rnd c (BitVec.ofNat 64 k)).1), .int .u64 (M.nu (M.rnd c (BitVec.ofNat 64 k)).2)]) ∧ Below w.heap.size w w' := by
  rw [nat_u64 k hk]; exact round_any c _ w
theorem rround_at (c : M.Blk) (k : Nat) (w : World) (hk : k < 18446744073709551616) :
    Calls Try.prog 49 #[.agg #[.int .u64 (M.nu c.1), .int .u64 (M.nu c.2)], .int .u64 (k : Int)] w fun e w' => e = .returned (.agg #[.int .u64 (M.nu (M.rnd c (BitVec.ofNat 64 k)).1), .int .u64 (M.nu (M.rnd c (BitVec.ofNat 64 k)).2)]) ∧ Below w.heap.size w w' := by
  rw [nat_u64 k hk]; exact rround_any c _ w
set_option maxHeartbeats 400000 in
theorem mix_any (b : M.Blk) (w : World) :
    Calls Try.prog 55 #[blkV b] w fun e w' => e = .returned (blkV (M.mix b)) ∧ Below w.heap.size w w' := by
  have hz : Bx2 ((w.alloc (.cells #[.int .u64 (M.nu b.1), .int .u64 (M.nu b.2)] 27)).alloc (.cells #[.int .u64 0, .int .u64 0] 27)) w.heap.size b := (Bx2.new w b).alloc _
  have hz2 : Bx2 ((w.alloc (.cells #[.int .u64 (M.nu b.1), .int .u64 (M.nu b.2)] 27)).alloc (.cells #[.int .u64 0, .int .u64 0] 27)) (w.heap.size + 1) (0#64, 0#64) := by
    have := Bx2.new (w.alloc (.cells #[.int .u64 (M.nu b.1), .int .u64 (M.nu b.2)] 27)) (0#64, 0#64)
    rwa [World.size_alloc] at this
  have HZ := hid' hz
  have HZ2 := hid' hz2
  clear hz hz2
  unfold blkV
  go_enter Try.func55, Try.ntmps55
  go_wp2
  go_loopw [4] (fun i wr => ∃ k : Nat, k ≤ 8 ∧ i = .int .u64 k ∧ Bx2 wr w.heap.size (M.mixN b k) ∧ Bx2 wr (w.heap.size + 1) (0#64, 0#64) ∧ Below w.heap.size w wr) (fun i _ => 8 - (intOf i).toNat)
  case atStart => exact ⟨0, by omega, rfl, HZ.out, HZ2.out, by (repeat' (first | exact Below.refl _ _ | with_reducible refine below_set ?_ (by simp; try omega) _ | with_reducible refine below_one ?_ | with_reducible refine below_dr ?_ _ | with_reducible refine below_d1 ?_))⟩
  case round =>
    clear HZ HZ2
    obtain ⟨k, hk, rfl, hx, hy, hb⟩ := hrel
    obtain ⟨hc0, hc1, hf0, hf1⟩ := hx.facts
    by_cases hlt : k < 8
    · skip
      go_wp2_with (first | (go_at_call 64; refine (round_at (M.mixN b k) k _ (by omega)).mono ?_; rintro e w1 ⟨rfl, hb1⟩; obtain ⟨gc0, gc1, gf0, gf1⟩ := (hx.below hb1).facts))
      go_roundw
      case rel => exact ⟨k + 1, by omega, by go_num, (hx.below hb1).set (M.rnd (M.mixN b k) (BitVec.ofNat 64 k)), ((hy.below hb1).other (by simp) _).other (by simp) _, below_set2 (below_trans hb hb1) (Nat.le_refl _) _ _⟩
      case measure => simp [intOf]; omega
    · obtain rfl : k = 8 := by omega
      obtain ⟨gc0, gc1, gf0, gf1⟩ := hy.facts
      have HX : Hid (M.nu (M.mixN b 8).1 = M.nu (M.mix b).1 ∧ M.nu (M.mixN b 8).2 = M.nu (M.mix b).2) := ⟨rfl, rfl⟩
      go_wp2
      refine bodyPost_ret (v := .agg #[.int .u64 _, .int .u64 _]) (by simp [results, Try.results55, go_sem, gc0, gc1]; exact ⟨rfl, rfl⟩) rfl ⟨rfl, ?_⟩
      exact below_set2 hb (by omega) _ _
set_option maxHeartbeats 400000 in
theorem rmix_any (b : M.Blk) (w : World) :
    Calls Try.prog 37 #[blkV b] w fun e w' => e = .returned (blkV (M.mix b)) ∧ Below w.heap.size w w' := by
  have hz : Bx2 ((w.alloc (.cells #[.int .u64 (M.nu b.1), .int .u64 (M.nu b.2)] 27)).alloc (.cells #[.int .u64 0, .int .u64 0] 27)) w.heap.size b := (Bx2.new w b).alloc _
  have hz2 : Bx2 ((w.alloc (.cells #[.int .u64 (M.nu b.1), .int .u64 (M.nu b.2)] 27)).alloc (.cells #[.int .u64 0, .int .u64 0] 27)) (w.heap.size + 1) (0#64, 0#64) := by
    have := Bx2.new (w.alloc (.cells #[.int .u64 (M.nu b.1), .int .u64 (M.nu b.2)] 27)) (0#64, 0#64)
    rwa [World.size_alloc] at this
  have HZ := hid' hz
  have HZ2 := hid' hz2
  clear hz hz2
  unfold blkV
  go_enter Try.func37, Try.ntmps37
  go_wp2
  go_loopw [4] (fun i wr => ∃ k : Nat, k ≤ 8 ∧ i = .int .i64 k ∧ Bx2 wr w.heap.size (M.mixN b k) ∧ Bx2 wr (w.heap.size + 1) (0#64, 0#64) ∧ Below w.heap.size w wr) (fun i _ => 8 - (intOf i).toNat)
  case atStart => exact ⟨0, by omega, rfl, HZ.out, HZ2.out, by (repeat' (first | exact Below.refl _ _ | with_reducible refine below_set ?_ (by simp; try omega) _ | with_reducible refine below_one ?_ | with_reducible refine below_dr ?_ _ | with_reducible refine below_d1 ?_))⟩
  case round =>
    clear HZ HZ2
    obtain ⟨k, hk, rfl, hx, hy, hb⟩ := hrel
    obtain ⟨hc0, hc1, hf0, hf1⟩ := hx.facts
    by_cases hlt : k < 8
    · skip
      go_wp2_with (first | (go_at_call 49; refine (rround_at (M.mixN b k) k _ (by omega)).mono ?_; rintro e w1 ⟨rfl, hb1⟩; obtain ⟨gc0, gc1, gf0, gf1⟩ := (hx.below hb1).facts))
      go_roundw
      case rel => exact ⟨k + 1, by omega, by go_num, (hx.below hb1).set (M.rnd (M.mixN b k) (BitVec.ofNat 64 k)), ((hy.below hb1).other (by simp) _).other (by simp) _, below_set2 (below_trans hb hb1) (Nat.le_refl _) _ _⟩
      case measure => simp [intOf]; omega
    · obtain rfl : k = 8 := by omega
      obtain ⟨gc0, gc1, gf0, gf1⟩ := hy.facts
      have HX : Hid (M.nu (M.mixN b 8).1 = M.nu (M.mix b).1 ∧ M.nu (M.mixN b 8).2 = M.nu (M.mix b).2) := ⟨rfl, rfl⟩
      go_wp2
      refine bodyPost_ret (v := .agg #[.int .u64 _, .int .u64 _]) (by simp [results, Try.results37, go_sem, gc0, gc1]; exact ⟨rfl, rfl⟩) rfl ⟨rfl, ?_⟩
      exact below_set2 hb (by omega) _ _
end Go.Proofs.Ythbacijbgjmigaa
