/-
  What the library's Concat of slices of numbers makes: one behind the other, in new memory. Conditions: each theorem's own premises.
-/
import Derived.Test.YthmiieiajfghnaaZF4
namespace Go.Proofs.Ythmiieiajfghnaa
open Go.RowKit
theorem flat_take {Ls : List (List Int)} (k : Nat) (hk : k < Ls.length) : (Ls.take (k + 1)).flatten = (Ls.take k).flatten ++ Ls[k]?.getD [] := by
  rw [List.take_succ_eq_append_getElem hk, List.flatten_append]
  simp [hk]
theorem flat_take_le {Ls : List (List Int)} (k : Nat) : (Ls.take k).flatten.length ≤ Ls.flatten.length := by
  conv => rhs; rw [← List.take_append_drop k Ls, List.flatten_append, List.length_append]
  omega
set_option maxRecDepth 100000 in
set_option maxHeartbeats 1000000 in
theorem concat_any (vs : List Value) (Ls : List (List Int)) (B n : Nat) (w : World) (hk : Ls.length = n) (hB : B < w.heap.size) (hcell : ∀ j, j < n → w.cell? ⟨B, j, none⟩ = some (vs[j]?.getD undef))
    (hU : ∀ j, j < n → Us w (vs[j]?.getD undef) (Ls[j]?.getD [])) (hn10 : n ≤ 10) (htot : Ls.flatten.length ≤ 5000) :
    Calls Try.prog 50 #[.slice (some ⟨B, 0, none⟩) n n] w fun e w' => ∃ v, e = .returned v ∧ w'.ownsRow w.heap.size 23 1 v Ls.flatten.length (u64s Ls.flatten) ∧ Below w.heap.size w w' := by
  obtain ⟨i0, hi, hz0, hz1, hz2⟩ := info_parts Try.infoU64
  have HF : Hid (∀ k, k < n → (Ls.take (k + 1)).flatten = (Ls.take k).flatten ++ Ls[k]?.getD []) := fun k h => flat_take k (by omega)
  have HL : Hid (∀ k, (Ls.take k).flatten.length ≤ 5000) := fun k => Nat.le_trans (flat_take_le k) htot
  have HT : Hid (Ls.take n = Ls) := List.take_of_length_le (by omega)
  have HC : Hid (∀ j, j < n → w.cell? ⟨B, j, none⟩ = some (vs[j]?.getD undef)) := hcell
  have HU : Hid (∀ j, j < n → Us w (vs[j]?.getD undef) (Ls[j]?.getD [])) := hU
  clear hcell hU hk htot
  go_enter Try.func50, Try.ntmps50
  go_wp2
  go_loop [11, 3] (fun i t => ∃ k : Nat, k ≤ n ∧ i = .int .i64 k ∧ t = .int .i64 ((Ls.take k).flatten.length : Nat)) (fun i _ => n - (intOf i).toNat)
  case atStart => exact ⟨0, by omega, rfl, by simp⟩
  case round =>
    obtain ⟨k, hk, rfl, rfl⟩ := hrel
    by_cases hlt : k < n
    · have hc := HC.out k hlt
      obtain ⟨ao, cap, hv, hq1, hq2, hq3, hq4⟩ := HU.out k hlt
      rw [hv] at hc
      have hf := congrArg List.length (HF.out k hlt)
      rw [List.length_append] at hf
      have hl0 := HL.out k
      have hl1 := HL.out (k + 1)
      generalize (Ls.take k).flatten.length = x at *
      generalize (Ls[k]?.getD []).length = y at *
      have HX : Hid ((Ls.take (k + 1)).flatten.length = x + y) := hf
      rw [hf] at hl1
      clear hf hq4 hq3 hv HF HL HT HC HU
      go_wp2
      go_round
      case rel => exact ⟨k + 1, by omega, by go_num, by rw [HX.out]; go_num⟩
      case measure => simp [intOf]; omega
    · obtain rfl : k = n := by omega
      have hl0 := HL.out k
      generalize (Ls.take k).flatten.length = x at *
      go_wp2_with (first | (go_at_call 63; refine (grow_nil _ _ (by omega)).mono ?_; rintro e w1 ⟨v1, rfl, hown1, hb1⟩))
      go_loopw [27, 6] (fun i t wr => ∃ j : Nat, j ≤ k ∧ i = .int .i64 j ∧ wr.ownsRow w.heap.size 23 1 t (Ls.take j).flatten.length (u64s (Ls.take j).flatten) ∧ Below w.heap.size w wr) (fun i _ _ => k - (intOf i).toNat)
      case atStart => exact ⟨0, by omega, rfl, by simpa using hown1, hb1⟩
      case round =>
        clear hown1 hb1
        obtain ⟨j, hj, rfl, hown, hb⟩ := hrel
        by_cases hlt : j < k
        · have hc : wr.cell? ⟨B, j, none⟩ = some (vs[j]?.getD undef) := (hb.cell (p := ⟨B, j, none⟩) hB).trans (HC.out j hlt)
          have hu := (HU.out j hlt).below hb
          have hff := HF.out j hlt
          have hf := congrArg List.length hff
          rw [List.length_append] at hf
          have hl1 := HL.out (j + 1)
          rw [hf] at hl1
          have HX2 : Hid ((Ls.take (j + 1)).flatten.length = (Ls.take j).flatten.length + (Ls[j]?.getD []).length) := hf
          have HY : Hid ((Ls.take (j + 1)).flatten = (Ls.take j).flatten ++ Ls[j]?.getD []) := hff
          generalize (Ls.take j).flatten = A at *
          generalize Ls[j]?.getD [] = L at *
          generalize vs[j]?.getD undef = vj at *
          clear hf hff HF HL HT HC HU
          have HO := hid hown
          have HU := hid hu
          obtain ⟨ao, cap, rfl, hq1, hq2, hq3, hq4⟩ := hu
          clear hq4 hq3 hown
          go_wp2_with (at_builtin; refine wpList_append_us rfl _ _ 22 rfl w.heap.size 23 i0 Try.underlying22 hi hz0 hz1 hz2 _ _ A rfl HO.out _ L rfl HU.out (by omega) hb.size ?_; intro v' w2 hown2 hgrow2)
          have hb2 : Below w.heap.size w w2 := hb.grown hgrow2 hb.size (fun q hq => (HO.out.lt q hq).1)
          go_wp2
          go_roundw
          case rel => exact ⟨j + 1, by omega, by go_num, by rw [HX2.out, HY.out]; exact hown2, hb2⟩
          case measure => simp [intOf]; omega
        · obtain rfl : j = k := by omega
          rw [HT.out] at hown
          have HO := hid hown
          clear hown HF HL HC HU
          go_wp2
          go_ret
          exact ⟨_, rfl, HO.out, hb⟩
end Go.Proofs.Ythmiieiajfghnaa
