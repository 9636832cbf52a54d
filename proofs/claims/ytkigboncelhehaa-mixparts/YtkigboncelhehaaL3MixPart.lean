/-
  The law MixPart: a part, exclusive or the block, is the Mix of the block with its first number's lowest bits turned. No condition.
-/
import Derived.Test.YtkigboncelhehaaL3MixBack
namespace Go.Proofs.Ytkigboncelhehaa
open Go.RowKit
theorem xor_eq {a b m : M.Blk} (h : M.xor a b = m) (w : World) : Calls Try.prog 16 #[.agg #[.int .u64 (M.nu a.1), .int .u64 (M.nu a.2)], .agg #[.int .u64 (M.nu b.1), .int .u64 (M.nu b.2)]] w fun e w' => e = .returned (.agg #[.int .u64 (M.nu m.1), .int .u64 (M.nu m.2)]) ∧ Below w.heap.size w w' := by
  subst h; exact xor_at a b w
theorem rxor_eq {a b m : M.Blk} (h : M.xor a b = m) (w : World) : Calls Try.prog 17 #[.agg #[.int .u64 (M.nu a.1), .int .u64 (M.nu a.2)], .agg #[.int .u64 (M.nu b.1), .int .u64 (M.nu b.2)]] w fun e w' => e = .returned (.agg #[.int .u64 (M.nu m.1), .int .u64 (M.nu m.2)]) ∧ Below w.heap.size w w' := by
  subst h; exact rxor_at a b w
theorem part_eq {a p : M.Blk} {i e : Int} (h : M.partV a i = p) (he : M.partE i = e) (w : World) : Calls Try.prog 12 #[.agg #[.int .u64 (M.nu a.1), .int .u64 (M.nu a.2)], .int .i64 i] w fun r w' => r = .returned (.tuple #[.agg #[.int .u64 (M.nu p.1), .int .u64 (M.nu p.2)], .int .i64 e]) ∧ Below w.heap.size w w' := by
  subst h; subst he; exact part_any a i w
theorem rpart_eq {a p : M.Blk} {i e : Int} (h : M.partV a i = p) (he : M.partE i = e) (w : World) : Calls Try.prog 13 #[.agg #[.int .u64 (M.nu a.1), .int .u64 (M.nu a.2)], .int .i64 i] w fun r w' => r = .returned (.tuple #[.agg #[.int .u64 (M.nu p.1), .int .u64 (M.nu p.2)], .int .i64 e]) ∧ Below w.heap.size w w' := by
  subst h; subst he; exact rpart_any a i w
set_option maxRecDepth 100000 in
set_option maxHeartbeats 4000000 in
theorem mixPart_walk (a : M.Blk) (i : Int) (w : World) :
    Calls Try.prog 10 #[blkV a, .int .i64 i] w fun e w' => e = .returned (.bool true) ∧ Below w.heap.size w w' := by
  have hq := eqB
  have HX := hid' (Bx2.new w a)
  by_cases hi : 0 ≤ i ∧ i ≤ 4
  · obtain ⟨h0, h1⟩ := hi
    have hv : M.partV a i = M.xor (M.mix (M.xor a (M.mark i))) a := if_pos ⟨h0, h1⟩
    have HE : Hid (M.partE i = 0) := if_pos ⟨h0, h1⟩
    have E1 : Hid (M.xor (M.partV a i) a = M.mix (M.xor a (M.mark i))) := by show _ = _; rw [hv, M.xor_xor]
    have E2 : Hid (M.unmix (M.mix (M.xor a (M.mark i))) = M.xor a (M.mark i)) := M.unmix_mix _
    have E3 : Hid (M.xor (M.xor a (M.mark i)) a = M.mark i) := by show _ = _; rw [M.xor_comm a, M.xor_xor]
    have k1 : M.nu (M.mark i).1 = i + 1 := arg_u64 i h0 h1
    have k2 : M.nu (M.mark i).2 = 0 := rfl
    obtain ⟨p, hp⟩ : ∃ p, M.partV a i = p := ⟨_, rfl⟩
    rw [hp] at E1
    have HP := hid' hp
    clear hp hv
    generalize M.xor a (M.mark i) = k at *
    generalize M.mix k = m at *
    generalize M.mark i = mk at *
    have T1 := hid' trivial
    unfold blkV
    go_enter Try.func10, Try.ntmps10
    go_wp2_with (first | (go_at_call 11; refine (live_any _).mono ?_; rintro r w1 ⟨rfl, hb1⟩; have hx1 := HX.out.below hb1; have hB1 : Below w.heap.size w w1 := below_trans (below_one (Below.refl _ _)) hb1; clear hb1; obtain ⟨ac0, ac1, _, _⟩ := hx1.facts) | (go_at_call 12; refine (part_eq HP.out HE.out _).mono ?_; rintro r w2 ⟨rfl, hb2⟩; have hx2 := hx1.below hb2; have hB2 := below_trans hB1 hb2; clear hb2; obtain ⟨bc0, bc1, _, _⟩ := hx2.facts; have hs2 := hx2.lt) | (go_at_call 16; clear T1; refine (xor_eq E1.out _).mono ?_; rintro r w3 ⟨rfl, hb3⟩; have hx3 := (hx2.alloc _).below hb3; have hB3 := below_trans (below_one hB2) hb3; clear hb3) | (go_at_call 24; refine (unmix_eq E2.out _).mono ?_; rintro r w4 ⟨rfl, hb4⟩; have hx4 := hx3.below hb4; have hB4 := below_trans hB3 hb4; clear hb4; obtain ⟨dc0, dc1, _, _⟩ := hx4.facts; have hs4 := hx4.lt) | (go_at_call 16; refine (xor_eq E3.out _).mono ?_; rintro r w5 ⟨rfl, hb5⟩; have hB5 := below_trans (below_one hB4) hb5; clear hb5))
    go_ret
    exact ⟨rfl, hB5⟩
  · have HP : Hid (M.partV a i = (0#64, 0#64)) := if_neg hi
    have HE : Hid (M.partE i = 1) := if_neg hi
    have h0 : M.nu 0#64 = 0 := rfl
    unfold blkV
    by_cases h1 : 0 ≤ i
    · have h2 : ¬ i ≤ 4 := by omega
      clear hi
      go_enter Try.func10, Try.ntmps10
      go_wp2_with (first | (go_at_call 11; refine (live_any _).mono ?_; rintro r w1 ⟨rfl, hb1⟩; have hx1 := HX.out.below hb1; have hB1 : Below w.heap.size w w1 := below_trans (below_one (Below.refl _ _)) hb1; clear hb1; obtain ⟨ac0, ac1, _, _⟩ := hx1.facts) | (go_at_call 12; refine (part_eq HP.out HE.out _).mono ?_; rintro r w2 ⟨rfl, hb2⟩; have hx2 := hx1.below hb2; have hB2 := below_trans hB1 hb2; clear hb2; obtain ⟨bc0, bc1, _, _⟩ := hx2.facts; have hs2 := hx2.lt))
      go_ret
      exact ⟨rfl, below_one hB2⟩
    · clear hi
      go_enter Try.func10, Try.ntmps10
      go_wp2_with (first | (go_at_call 11; refine (live_any _).mono ?_; rintro r w1 ⟨rfl, hb1⟩; have hx1 := HX.out.below hb1; have hB1 : Below w.heap.size w w1 := below_trans (below_one (Below.refl _ _)) hb1; clear hb1; obtain ⟨ac0, ac1, _, _⟩ := hx1.facts) | (go_at_call 12; refine (part_eq HP.out HE.out _).mono ?_; rintro r w2 ⟨rfl, hb2⟩; have hx2 := hx1.below hb2; have hB2 := below_trans hB1 hb2; clear hb2; obtain ⟨bc0, bc1, _, _⟩ := hx2.facts; have hs2 := hx2.lt))
      go_ret
      exact ⟨rfl, below_one hB2⟩
end Go.Proofs.Ytkigboncelhehaa
