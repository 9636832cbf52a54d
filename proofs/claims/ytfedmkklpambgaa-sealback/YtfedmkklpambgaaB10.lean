/-
  What the document's own Octets comes to. No condition.
-/
import Derived.Test.YtfedmkklpambgaaB9
namespace Go.Proofs.Ytfedmkklpambgaa
open Go.RowKit
theorem Try.infoU8 : (Try.prog.info? 5).map (fun i => (i.zero, i.size, i.bytes)) = some (some (.int .u8 0), 1, 1) := by kernel_rfl
theorem pow_step (x : Int) (j : Nat) : x / 2 ^ (8 * j) / 256 = x / 2 ^ (8 * (j + 1)) := by
  rw [Int.ediv_ediv_of_nonneg (Int.le_of_lt (Int.pow_pos (by decide))), Nat.mul_add, Int.pow_add]; rfl
theorem pow_bd (x : Int) (j : Nat) (h0 : 0 ≤ x) (h1 : x ≤ 18446744073709551615) : 0 ≤ x / 2 ^ (8 * j) ∧ x / 2 ^ (8 * j) ≤ 18446744073709551615 :=
  ⟨Int.ediv_nonneg h0 (Int.le_of_lt (Int.pow_pos (by decide))), Int.le_trans (Int.ediv_le_self _ h0) h1⟩
theorem octs_take (b : M.Blk) (i : Nat) (hi : i < 16) : (M.octs b).take (i + 1) = (M.octs b).take i ++ [M.oc b i] := by
  have hl : i < (M.octs b).length := by rw [octs_length]; exact hi
  rw [List.take_succ_eq_append_getElem hl]
  simp [M.octs]
theorem octs_step0 (b : M.Blk) (j : Nat) (hj : j < 8) : (M.octs b).take (j + 1) = (M.octs b).take j ++ [M.nu b.1 / 2 ^ (8 * j) % 256] := by
  rw [octs_take b j (by omega), oc_low b j hj]
theorem octs_step1 (b : M.Blk) (j : Nat) (hj : j < 8) : (M.octs b).take (8 + j + 1) = (M.octs b).take (8 + j) ++ [M.nu b.2 / 2 ^ (8 * j) % 256] := by
  rw [octs_take b (8 + j) (by omega), oc_high b (8 + j) j (by omega) hj]
theorem own_shape8 {w : World} {base : Nat} {e : TypeId} {v : Value} {k : Nat} {xs : List Value} (h : w.ownsRow base e 1 v (k + 1) xs) : ∃ g cap, v = .slice (some ⟨g, 0, none⟩) (k + 1) cap := by
  rcases h.2 with ⟨_, h2⟩ | ⟨g, cap, cur, h2, _⟩
  · omega
  · exact ⟨g, cap, h2⟩
theorem index_0 (u v : Int) (w : World) : (Instr.index 24 (.agg #[.int .u64 u, .int .u64 v]) (.int .i64 0)).run Try.prog w = .ok (.int .u64 u) w := by
  simp [Instr.index, run_underlying Try.underlying24, asIntOf, go_sem]
theorem index_1 (u v : Int) (w : World) : (Instr.index 24 (.agg #[.int .u64 u, .int .u64 v]) (.int .i64 1)).run Try.prog w = .ok (.int .u64 v) w := by
  simp [Instr.index, run_underlying Try.underlying24, asIntOf, go_sem]
set_option maxRecDepth 100000 in
set_option maxHeartbeats 2000000 in
theorem roctets_any (b : M.Blk) (w : World) :
    Calls Try.prog 29 #[blkV b] w fun e w' => ∃ v, e = .returned v ∧ w'.ownsRow w.heap.size 5 1 v 16 (u8s (M.octs b)) ∧ Below w.heap.size w w' := by
  obtain ⟨i0, hi, hz0, hz1, hz2⟩ := info_parts Try.infoU8
  unfold blkV
  go_enter Try.func29, Try.ntmps29
  go_wp2
  go_loopw [7, 3] (fun i t wr => ∃ k : Nat, k ≤ 2 ∧ i = .int .i64 k ∧ wr.ownsRow w.heap.size 5 1 t (8 * k) (u8s ((M.octs b).take (8 * k))) ∧ Below w.heap.size w wr) (fun i _ _ => 2 - (intOf i).toNat)
  case atStart => exact ⟨0, by omega, rfl, World.ownsRow_nil _ _ _ _, below_one (Below.refl _ _)⟩
  case round =>
    obtain ⟨k, hk, rfl, hown, hb⟩ := hrel
    have hkk : k = 0 ∨ k = 1 ∨ k = 2 := by omega
    rcases hkk with rfl | rfl | rfl
    · clear hk
      have ix := index_0 (M.nu b.1) (M.nu b.2)
      have HT : Hid (∀ j, j < 8 → (M.octs b).take (j + 1) = (M.octs b).take (j) ++ [M.nu b.1 / 2 ^ (8 * j) % 256]) := fun j hj => octs_step0 b j hj
      have HD : Hid (∀ j : Nat, M.nu b.1 / 2 ^ (8 * j) / 256 = M.nu b.1 / 2 ^ (8 * (j + 1))) := fun j => pow_step _ j
      have n0 := M.nu_0 b.1
      have n1 := M.nu_1 b.1
      have HN : Hid (∀ j : Nat, 0 ≤ M.nu b.1 / 2 ^ (8 * j) ∧ M.nu b.1 / 2 ^ (8 * j) ≤ 18446744073709551615) := fun j => pow_bd _ j n0 n1
      have hown1 : wr.ownsRow w.heap.size 5 1 u3 (0) (u8s ((M.octs b).take (0))) := hown
      have HW := hid' hown1
      clear hown hown1
      rw [show ((0 : Nat) : Int) = 0 from rfl]
      go_wp2
      go_loopw [10, 3, 5] (fun i t n wi => ∃ j : Nat, j ≤ 8 ∧ i = .int .i64 j ∧ n = .int .u64 (M.nu b.1 / 2 ^ (8 * j)) ∧ wi.ownsRow w.heap.size 5 1 t (j) (u8s ((M.octs b).take (j))) ∧ Below w.heap.size w wi) (fun i _ _ _ => 8 - (intOf i).toNat)
      case atStart => exact ⟨0, by omega, rfl, by simp, HW.out, hb⟩
      case round =>
        clear HW hb
        obtain ⟨j, hj, rfl, rfl, hown, hb⟩ := hrel
        by_cases hlt : j < 8
        · obtain ⟨p0, p1⟩ := HN.out j
          have hd := HD.out j
          have HX := hid' (HT.out j hlt)
          clear HT HN HD
          generalize M.nu b.1 / 2 ^ (8 * j) = y at *
          have HO := hid' hown
          clear hown
          have HY := hid' hd
          clear hd
          have e256 : IntKind.u8.wrap (y % 256) = y % 256 := by simp [IntKind.wrap, IntKind.bits, IntKind.signed]
          have HS := hid' hb.size
          go_wp2_with (at_builtin; refine wpList_append_own _ rfl _ _ 27 rfl w.heap.size 5 i0 (.int .u8 0) 1 1 Try.underlying27 hi hz0 hz1 hz2 rfl (by decide) _ _ _ rfl (HO.out.alloc _) ⟨wr.heap.size, 0, none⟩ 1 1 [.int .u8 (y % 256)] rfl rfl ?c1 ?c2 ?c3 ?c4 ?c5 ?_)
          case c1 =>
            intro j u hj
            match j, hj with
            | 0, hj => simp at hj; subst hj; simp [Addr.add]
          case c2 => intro u hu; simp at hu; subst hu; rfl
          case c3 => unfold maxLen; omega
          case c4 => omega
          case c5 => have := HS.out; simp; omega
          intro v' w2 hown2 hgrow2 _
          obtain ⟨g', cap', hv⟩ := own_shape8 hown2
          have hb2 : Below w.heap.size w w2 := (below_one hb).grown hgrow2 (by have := HS.out; simp; omega) (fun k hk => (HO.out.lt k hk).1)
          rw [hv] at hown2 ⊢
          have hfin : w2.ownsRow w.heap.size 5 1 (.slice (some ⟨g', 0, none⟩) (j + 1) cap') (j + 1) (u8s ((M.octs b).take (j + 1))) := by
            rw [HX.out]; unfold u8s; rw [List.map_append]; exact hown2
          have HF := hid' hfin
          clear hown2 hgrow2 hfin HO HX hv
          go_wp2
          go_roundw
          case rel => exact ⟨j + 1, by omega, by go_num, by rw [HY.out], HF.out, hb2⟩
          case measure => simp [intOf]; omega
        · obtain rfl : j = 8 := by omega
          have HO := hid' hown
          clear hown HT HD HN
          go_wp2
          go_roundw
          case rel => exact ⟨1, by omega, by go_num, HO.out, hb⟩
          case measure => simp [intOf]
    · clear hk
      have ix := index_1 (M.nu b.1) (M.nu b.2)
      have HT : Hid (∀ j, j < 8 → (M.octs b).take (8 + j + 1) = (M.octs b).take (8 + j) ++ [M.nu b.2 / 2 ^ (8 * j) % 256]) := fun j hj => octs_step1 b j hj
      have HD : Hid (∀ j : Nat, M.nu b.2 / 2 ^ (8 * j) / 256 = M.nu b.2 / 2 ^ (8 * (j + 1))) := fun j => pow_step _ j
      have n0 := M.nu_0 b.2
      have n1 := M.nu_1 b.2
      have HN : Hid (∀ j : Nat, 0 ≤ M.nu b.2 / 2 ^ (8 * j) ∧ M.nu b.2 / 2 ^ (8 * j) ≤ 18446744073709551615) := fun j => pow_bd _ j n0 n1
      have hown1 : wr.ownsRow w.heap.size 5 1 u3 (8 + 0) (u8s ((M.octs b).take (8 + 0))) := hown
      have HW := hid' hown1
      clear hown hown1
      rw [show ((1 : Nat) : Int) = 1 from rfl]
      go_wp2
      go_loopw [10, 3, 5] (fun i t n wi => ∃ j : Nat, j ≤ 8 ∧ i = .int .i64 j ∧ n = .int .u64 (M.nu b.2 / 2 ^ (8 * j)) ∧ wi.ownsRow w.heap.size 5 1 t (8 + j) (u8s ((M.octs b).take (8 + j))) ∧ Below w.heap.size w wi) (fun i _ _ _ => 8 - (intOf i).toNat)
      case atStart => exact ⟨0, by omega, rfl, by simp, HW.out, hb⟩
      case round =>
        clear HW hb
        obtain ⟨j, hj, rfl, rfl, hown, hb⟩ := hrel
        by_cases hlt : j < 8
        · obtain ⟨p0, p1⟩ := HN.out j
          have hd := HD.out j
          have HX := hid' (HT.out j hlt)
          clear HT HN HD
          generalize M.nu b.2 / 2 ^ (8 * j) = y at *
          have HO := hid' hown
          clear hown
          have HY := hid' hd
          clear hd
          have e256 : IntKind.u8.wrap (y % 256) = y % 256 := by simp [IntKind.wrap, IntKind.bits, IntKind.signed]
          have HS := hid' hb.size
          go_wp2_with (at_builtin; refine wpList_append_own _ rfl _ _ 27 rfl w.heap.size 5 i0 (.int .u8 0) 1 1 Try.underlying27 hi hz0 hz1 hz2 rfl (by decide) _ _ _ rfl (HO.out.alloc _) ⟨wr.heap.size, 0, none⟩ 1 1 [.int .u8 (y % 256)] rfl rfl ?c1 ?c2 ?c3 ?c4 ?c5 ?_)
          case c1 =>
            intro j u hj
            match j, hj with
            | 0, hj => simp at hj; subst hj; simp [Addr.add]
          case c2 => intro u hu; simp at hu; subst hu; rfl
          case c3 => unfold maxLen; omega
          case c4 => omega
          case c5 => have := HS.out; simp; omega
          intro v' w2 hown2 hgrow2 _
          obtain ⟨g', cap', hv⟩ := own_shape8 hown2
          have hb2 : Below w.heap.size w w2 := (below_one hb).grown hgrow2 (by have := HS.out; simp; omega) (fun k hk => (HO.out.lt k hk).1)
          rw [hv] at hown2 ⊢
          have hfin : w2.ownsRow w.heap.size 5 1 (.slice (some ⟨g', 0, none⟩) (8 + j + 1) cap') (8 + j + 1) (u8s ((M.octs b).take (8 + j + 1))) := by
            rw [HX.out]; unfold u8s; rw [List.map_append]; exact hown2
          have HF := hid' hfin
          clear hown2 hgrow2 hfin HO HX hv
          go_wp2
          go_roundw
          case rel => exact ⟨j + 1, by omega, by go_num, by rw [HY.out], HF.out, hb2⟩
          case measure => simp [intOf]; omega
        · obtain rfl : j = 8 := by omega
          have HO := hid' hown
          clear hown HT HD HN
          go_wp2
          go_roundw
          case rel => exact ⟨2, by omega, by go_num, HO.out, hb⟩
          case measure => simp [intOf]
    · have hown1 : wr.ownsRow w.heap.size 5 1 u3 16 (u8s (M.octs b)) := by
        have e : (M.octs b).take (8 * 2) = M.octs b := List.take_of_length_le (by rw [octs_length]; omega)
        rw [e] at hown; exact hown
      have HW := hid' hown1
      clear hown hown1
      go_wp2
      go_ret
      exact ⟨_, rfl, HW.out, hb⟩
end Go.Proofs.Ytfedmkklpambgaa
