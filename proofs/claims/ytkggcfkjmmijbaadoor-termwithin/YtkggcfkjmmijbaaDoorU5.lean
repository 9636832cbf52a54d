/-
  What the library's Grow, Concat, Clone and Equal of slices of terms come to. Conditions: each theorem's own premises.
-/
import Derived.Test.YtkggcfkjmmijbaaDoorU4
import Derived.Lib.AppendZerosOnto
namespace Go.Proofs.YtkggcfkjmmijbaaDoor
open Go.RowKit
set_option maxRecDepth 100000 in
set_option maxHeartbeats 1000000 in
/-- slices.Grow(nil, n): a new row of n places, none in use -/
theorem growT_nil (n : Nat) (w : World) (hn : n ≤ 100000) :
    Calls Tryd.prog 40 #[.slice none 0 0, .int .i64 n] w fun e w' => ∃ v, e = .returned v ∧ w'.ownsRow w.heap.size 24 3 v 0 [] ∧ Below w.heap.size w w' := by
  obtain ⟨i0, hi, hz0, hz1, hz2⟩ := info_partsq elTm.info
  have hz0 : i0.zero = some (.agg #[.int .i64 0, .int .i64 0, .int .i64 0]) := hz0
  have hz1 : i0.size = 3 := hz1
  have hz2 : i0.bytes = 24 := hz2
  have hi : Tryd.prog.info? 24 = some i0 := hi
  rcases Nat.eq_zero_or_pos n with h0 | h0
  · subst h0
    go_enter Tryd.func40, Tryd.ntmps40
    go_wp2
    go_ret
    exact ⟨_, rfl, World.ownsRow_nil _ _ _ _, Below.refl _ _⟩
  · have hrz : ∀ ty, (Builtin.append_ #[22, 3] ty #[.slice none 0 0, .int .i64 n]).run Tryd.prog w =
        .ok (.slice (some ⟨w.heap.size, 0, none⟩) n (grownCap w n 0 24)) (w.drew.alloc (.cells (#[] ++ Builtin.zeroCells ((.agg #[.int .i64 0, .int .i64 0, .int .i64 0]) : Value).cells n ++ Builtin.zeroCells ((.agg #[.int .i64 0, .int .i64 0, .int .i64 0]) : Value).cells (grownCap w n 0 24 - n)) 24)) := fun ty => by
      have h := Lib.run_append_grow_zeros w 22 3 ty 24 i0 (.agg #[.int .i64 0, .int .i64 0, .int .i64 0]) .i64 .i64 Tryd.underlying22 Tryd.underlying3 hi hz0 none 0 0 [] (run_firstCells_none w.drew _ 0 0 0) n h0 (by omega) (by omega) (by omega) (by rw [hz2]; omega) (by rw [hz2]; simp only [Nat.zero_add]; exact growslice_fits h0 (by omega))
      simpa using h
    have hge := grownCap_ge w n 0 24
    have hle := grownCap_le_maxLen w n 0 24 (by unfold maxLen; omega)
    generalize hG : grownCap w n 0 24 = G at *
    have hown : ((w.drew).alloc (.cells (#[] ++ Builtin.zeroCells ((.agg #[.int .i64 0, .int .i64 0, .int .i64 0]) : Value).cells n ++ Builtin.zeroCells ((.agg #[.int .i64 0, .int .i64 0, .int .i64 0]) : Value).cells (G - n)) 24)).ownsRow w.heap.size 24 3 (.slice (some ⟨w.heap.size, 0, none⟩) 0 G) 0 [] := by
      refine World.ownsRow_made w.drew _ G (Nat.le_refl _) hle ?_
      simp only [Array.size_append, size_zeroCells, List.size_toArray, List.length_nil]
      show 0 + n * 3 + (G - n) * 3 = G * 3
      omega
    have hbel : Below w.heap.size w ((w.drew).alloc (.cells (#[] ++ Builtin.zeroCells ((.agg #[.int .i64 0, .int .i64 0, .int .i64 0]) : Value).cells n ++ Builtin.zeroCells ((.agg #[.int .i64 0, .int .i64 0, .int .i64 0]) : Value).cells (G - n)) 24)) := ((Below.refl _ w).drew).alloc (Nat.le_refl _) _
    unfold maxLen at hle
    clear hG
    generalize Obj.cells (#[] ++ Builtin.zeroCells ((.agg #[.int .i64 0, .int .i64 0, .int .i64 0]) : Value).cells n ++ Builtin.zeroCells ((.agg #[.int .i64 0, .int .i64 0, .int .i64 0]) : Value).cells (G - n)) 24 = ob at *
    have HO : Hid ((w.alloc ob).drew.ownsRow w.heap.size 24 3 (.slice (some ⟨w.heap.size, 0, none⟩) 0 G) 0 []) := hown
    have HB : Hid (Below w.heap.size w (w.alloc ob).drew) := hbel
    clear hown hbel
    go_enter Tryd.func40, Tryd.ntmps40
    go_wp2_with (at_builtin; refine Lib.wpList_append_run _ rfl _ _ _ _ rfl _ _ rfl rfl _ _ (hrz _) ?_)
    go_ret
    exact ⟨_, rfl, HO.out, HB.out⟩
theorem flatT_take {Ls : List (List M.Tm)} (k : Nat) (hk : k < Ls.length) : (Ls.take (k + 1)).flatten = (Ls.take k).flatten ++ Ls[k]?.getD [] := by
  rw [List.take_succ_eq_append_getElem hk, List.flatten_append]
  simp [hk]
theorem flatT_take_le {Ls : List (List M.Tm)} (k : Nat) : (Ls.take k).flatten.length ≤ Ls.flatten.length := by
  conv => rhs; rw [← List.take_append_drop k Ls, List.flatten_append, List.length_append]
  omega
set_option maxRecDepth 100000 in
set_option maxHeartbeats 1000000 in
theorem concatT_any (vs : List Value) (Ls : List (List M.Tm)) (B n : Nat) (w : World) (hk : Ls.length = n) (hB : B < w.heap.size) (hcell : ∀ j, j < n → w.cell? ⟨B, j, none⟩ = some (vs[j]?.getD undef))
    (hU : ∀ j, j < n → Ts w (vs[j]?.getD undef) (Ls[j]?.getD [])) (hn10 : n ≤ 10) (htot : Ls.flatten.length ≤ 70000) :
    Calls Tryd.prog 30 #[.slice (some ⟨B, 0, none⟩) n n] w fun e w' => ∃ v, e = .returned v ∧ w'.ownsRow w.heap.size 24 3 v Ls.flatten.length (elTm.cells Ls.flatten) ∧ Below w.heap.size w w' := by
  have HF := hidq (show ∀ k, k < n → (Ls.take (k + 1)).flatten = (Ls.take k).flatten ++ Ls[k]?.getD [] from fun k h => flatT_take k (by omega))
  have HL := hidq (show ∀ k, (Ls.take k).flatten.length ≤ 70000 from fun k => Nat.le_trans (flatT_take_le k) htot)
  have HT := hidq (show Ls.take n = Ls from List.take_of_length_le (by omega))
  have HC := hidq hcell
  have HU := hidq hU
  clear hcell hU hk htot
  go_enter Tryd.func30, Tryd.ntmps30
  go_wp2
  go_loop [11, 3] (fun i t => ∃ k : Nat, k ≤ n ∧ i = .int .i64 k ∧ t = .int .i64 ((Ls.take k).flatten.length : Nat)) (fun i _ => n - (intOf i).toNat)
  case atStart => exact ⟨0, by omega, rfl, by simp⟩
  case round =>
    obtain ⟨k, hk, rfl, rfl⟩ := hrel
    by_cases hlt : k < n
    · have hc := HC.out k hlt
      obtain ⟨ao, cap, hv, hq1, hq2, hq3, hq4⟩ := HU.out k hlt
      rw [hv] at hc
      have hf := congrArg List.length (HF.out k hlt)
      rw [List.length_append] at hf
      have hl0 := HL.out k
      have hl1 := HL.out (k + 1)
      generalize (Ls.take k).flatten.length = x at *
      generalize (Ls[k]?.getD []).length = y at *
      have HX : Hid ((Ls.take (k + 1)).flatten.length = x + y) := hf
      rw [hf] at hl1
      clear hf hq4 hq3 hv HF HL HT HC HU
      go_wp2
      go_round
      case rel => exact ⟨k + 1, by omega, by go_num, by rw [HX.out]; go_num⟩
      case measure => simp [intOf]; omega
    · obtain rfl : k = n := by omega
      have hl0 := HL.out k
      generalize (Ls.take k).flatten.length = x at *
      go_wp2_with (first | (go_at_call 40; refine (growT_nil _ _ (by omega)).mono ?_; rintro e w1 ⟨v1, rfl, hown1, hb1⟩))
      go_loopw [27, 6] (fun i t wr => ∃ j : Nat, j ≤ k ∧ i = .int .i64 j ∧ wr.ownsRow w.heap.size 24 3 t (Ls.take j).flatten.length (elTm.cells (Ls.take j).flatten) ∧ Below w.heap.size w wr) (fun i _ _ => k - (intOf i).toNat)
      case atStart => exact ⟨0, by omega, rfl, by simp only [List.take_zero, List.flatten_nil]; exact hown1, hb1⟩
      case round =>
        clear hown1 hb1
        obtain ⟨j, hj, rfl, hown, hb⟩ := hrel
        by_cases hlt : j < k
        · have hc : wr.cell? ⟨B, j, none⟩ = some (vs[j]?.getD undef) := (hb.cell (p := ⟨B, j, none⟩) hB).trans (HC.out j hlt)
          have hu := (HU.out j hlt).below hb
          have hff := HF.out j hlt
          have hf := congrArg List.length hff
          rw [List.length_append] at hf
          have hl1 := HL.out (j + 1)
          rw [hf] at hl1
          have HX2 := hidq hf
          have HY := hidq hff
          generalize (Ls.take j).flatten = A at *
          generalize Ls[j]?.getD [] = L at *
          generalize vs[j]?.getD undef = vj at *
          clear hf hff HF HL HT HC HU
          have HO := hidq hown
          have HU := hidq hu
          obtain ⟨ao, cap, rfl, hq1, hq2, hq3, hq4⟩ := hu
          clear hq4 hq3 hown
          go_wp2_with (at_builtin; refine wpList_append_sl (E := elTm) rfl _ _ rfl w.heap.size _ _ A rfl HO.out _ L rfl HU.out (by omega) hb.size ?_; intro v' w2 hown2 hgrow2)
          have hb2 : Below w.heap.size w w2 := hb.grown hgrow2 hb.size (fun q hq => (HO.out.lt q hq).1)
          have HO2 := hidq hown2
          clear hown2 hgrow2
          go_wp2
          go_roundw
          case rel => exact ⟨j + 1, by omega, by go_num, by rw [HX2.out, HY.out]; exact HO2.out, hb2⟩
          case measure => simp [intOf]; omega
        · obtain rfl : j = k := by omega
          rw [HT.out] at hown
          have HO := hidq hown
          clear hown HF HL HC HU
          go_wp2
          go_ret
          exact ⟨_, rfl, HO.out, hb⟩
end Go.Proofs.YtkggcfkjmmijbaaDoor
