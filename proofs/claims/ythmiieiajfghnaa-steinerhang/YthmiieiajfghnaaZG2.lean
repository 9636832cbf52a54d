/-
  What the document's own answers Same, With, Without and Below of layer 2 come to. Conditions: the slices hold numbers that fit.
-/
import Derived.Test.YthmiieiajfghnaaZG1
namespace Go.Proofs.Ythmiieiajfghnaa
open Go.RowKit
set_option maxRecDepth 100000 in
set_option maxHeartbeats 400000 in
theorem same_yes (L : List Int) (v1 v2 : Value) (w : World) (u1 : Us w v1 L) (u2 : Us w v2 L) :
    Calls Try.prog 20 #[v1, v2] w fun e w' => e = .returned (.bool true) ∧ Below w.heap.size w w' := by
  obtain ⟨a1, c1, rfl, hp1, hp2, _, hp4⟩ := u1
  obtain ⟨a2, c2, rfl, hq1, hq2, _, hq4⟩ := u2
  have hm : L.length ≤ maxLen := by omega
  unfold maxLen at hm
  have HP4 := hid hp4
  have HQ4 := hid hq4
  clear hp4 hq4
  generalize hn : L.length = n at *
  go_enter Try.func20, Try.ntmps20
  go_wp2
  go_loopw [13] (fun i wr => ∃ k d : Nat, k ≤ n ∧ i = .int .i64 k ∧ wr = w.drewN d) (fun i _ => n - (intOf i).toNat)
  case atStart => exact ⟨0, 0, by omega, rfl, rfl⟩
  case round =>
    obtain ⟨k, d, hk, rfl, rfl⟩ := hrel
    by_cases hlt : k < n
    · obtain ⟨b1, o1, rfl, _, hc1⟩ := HP4.out (by omega)
      obtain ⟨b2, o2, rfl, _, hc2⟩ := HQ4.out (by omega)
      have x1 := hc1 k hlt
      have x2 := hc2 k hlt
      have y1 : (w.drewN d).cell? ⟨b1, o1 + k, none⟩ = some (.int .u64 (L[k]?.getD 0)) := hc1 k hlt
      have y2 : (w.drewN d).cell? ⟨b2, o2 + k, none⟩ = some (.int .u64 (L[k]?.getD 0)) := hc2 k hlt
      clear hc1 hc2 HP4 HQ4
      generalize L[k]?.getD 0 = y at *
      go_wp2
      go_quiet (fail)
      go_wp2
      go_roundw
      case rel => exact ⟨k + 1, d + nq, by omega, by go_num, rfl⟩
      case measure => simp [intOf]; omega
    · clear HP4 HQ4
      go_wp2
      go_ret
      exact ⟨rfl, below_drewN (Below.refl _ _) _⟩
theorem Us.one (w : World) (x : Int) (e : TypeId) (h0 : 0 ≤ x) (h1 : x ≤ 18446744073709551615) : Us (w.alloc (.cells #[.int .u64 x] e)) (.slice (some ⟨w.heap.size, 0, none⟩) 1 1) [x] := by
  refine ⟨_, _, rfl, by simp, by unfold maxLen; omega, by simp; omega, fun _ => ⟨w.heap.size, 0, rfl, by simp, fun j hj => ?_⟩⟩
  match j, hj with
  | 0, _ => rw [Nat.zero_add, cell_at]; rfl
theorem filter_take {L : List Int} (f : Int → Bool) (k : Nat) (hk : k < L.length) : (L.take (k + 1)).filter f = (L.take k).filter f ++ (if f (L[k]?.getD 0) then [L[k]?.getD 0] else []) := by
  rw [take_getD k hk, List.filter_append]
  congr 1
  by_cases h : f (L[k]?.getD 0) = true
  · rw [if_pos h, List.filter_cons_of_pos h]; rfl
  · rw [if_neg h, List.filter_cons_of_neg h]; rfl
theorem filter_take_le {L : List Int} (f : Int → Bool) (k : Nat) : ((L.take k).filter f).length ≤ L.length :=
  Nat.le_trans (List.length_filter_le _ _) (by rw [List.length_take]; omega)
theorem append3_left (A : List Int) (i : Int) (B : List Int) (y : Int) : A ++ [i] ++ (B ++ [y]) = (A ++ [i] ++ B) ++ [y] := by simp
end Go.Proofs.Ythmiieiajfghnaa
