/-
  What the document's own answers Depth, Up and Leaves come to at every input. Conditions: the numbers fit their kinds.
-/
import Derived.Test.YthmiieiajfghnaaZR2
namespace Go.Proofs.Ythmiieiajfghnaa
open Go.RowKit
theorem own_kept {w w' : World} {base : Nat} {e : TypeId} {size : Nat} {v : Value} {n : Nat} {xs : List Value} (h : w.ownsRow base e size v n xs) (hb : Below w.heap.size w w') : w'.ownsRow base e size v n xs :=
  h.kept (row := none) ⟨hb.os, hb.tape, hb.output, hb.size, fun k hk _ => hb.block k hk⟩ (by cases hv : v.ownBlock <;> simp)
theorem own_lower {w : World} {base b2 : Nat} {e : TypeId} {size : Nat} {v : Value} {n : Nat} {xs : List Value} (h : w.ownsRow base e size v n xs) (hb : b2 ≤ base) : w.ownsRow b2 e size v n xs := by
  refine ⟨h.1, ?_⟩
  rcases h.2 with hn | ⟨g, cap, cur, h1, h2, rest⟩
  · exact .inl hn
  · exact .inr ⟨g, cap, cur, h1, Nat.le_trans hb h2, rest⟩
/-- one round of the leaves: the least, and the greatest, one row deeper -/
theorem M.leaves_round {h n : Int} (hk : M.okB h n = true) (j : Nat) (hj : M.dep n + j ≤ h) :
    0 ≤ n * M.p2 j ∧ 0 ≤ (n + 1) * M.p2 j - 1 ∧ n * M.p2 j < 8589934592 ∧ (n + 1) * M.p2 j - 1 < 8589934592 ∧ (n * M.p2 j < M.p2 h ↔ M.dep n + j < h) ∧
    n * M.p2 ((j + 1 : Nat) : Int) = 2 * (n * M.p2 j) ∧ (n + 1) * M.p2 ((j + 1 : Nat) : Int) - 1 = 2 * ((n + 1) * M.p2 j - 1) + 1 := by
  obtain ⟨k1, k2, k3, k4⟩ := M.ok_of hk
  have h0 := M.dep_nonneg n
  have h1 := M.dep_le n k3
  have h2 := M.dep_lt n k3
  have h3 := M.p2_32 k2
  have h5 := M.p2_pos (j : Int)
  have h4 : M.p2 (M.dep n + j) = M.p2 (M.dep n) * M.p2 j := M.p2_add h0 (by omega)
  have h6 : n * M.p2 j ≥ M.p2 (M.dep n + j) := by rw [h4]; exact Int.mul_le_mul_of_nonneg_right h1 (by omega)
  have h7 : (n + 1) * M.p2 j ≤ 2 * M.p2 (M.dep n + j) := by rw [h4, ← Int.mul_assoc]; exact Int.mul_le_mul_of_nonneg_right (by omega) (by omega)
  have h8 := M.p2_mono hj
  have h9 : (n + 1) * M.p2 j = n * M.p2 j + M.p2 j := by rw [Int.add_mul, Int.one_mul]
  have h10 := M.p2_pos (M.dep n + j)
  have h11 : M.p2 ((j + 1 : Nat) : Int) = 2 * M.p2 j := M.p2_succ (j : Int) (by omega)
  have h12 : n * M.p2 ((j + 1 : Nat) : Int) = 2 * (n * M.p2 j) := by rw [h11, Int.mul_left_comm]
  have h13 : (n + 1) * M.p2 ((j + 1 : Nat) : Int) = 2 * ((n + 1) * M.p2 j) := by rw [h11, Int.mul_left_comm]
  refine ⟨by omega, by omega, by omega, by omega, ?_, h12, by omega⟩
  constructor
  · intro hlt
    by_cases hc : M.dep n + j < h
    · exact hc
    · rw [show M.dep n + (j : Int) = h by omega] at h6; omega
  · intro hlt
    have := M.p2_mono (show M.dep n + j + 1 ≤ h by omega)
    rw [M.p2_succ _ (by omega)] at this
    omega
set_option maxRecDepth 100000 in
set_option maxHeartbeats 400000 in
theorem rleaves_any (h n : Int) (w : World) (h0 : 0 ≤ n) (h1 : n ≤ 18446744073709551615) :
    Calls Try.prog 58 #[.int .i64 h, .int .u64 n] w fun e w' => e = .returned (.tuple #[.agg #[.int .u64 (M.lowV h n), .int .u64 (M.highV h n)], .int .i64 (M.eChk h n)]) ∧ Below w.heap.size w w' := by
  cases hk : M.okB h n
  · have E : M.eChk h n = 1 := by unfold M.eChk; rw [hk]; rfl
    have V : M.lowV h n = 0 := by unfold M.lowV; rw [hk]; rfl
    have U : M.highV h n = 0 := by unfold M.highV; rw [hk]; rfl
    go_enter Try.func58, Try.ntmps58
    go_wp2_with (first | (go_at_call 42; refine (may_any _ _ _ (by omega) (by omega)).mono ?_; rintro e w' ⟨rfl, hw⟩; subst w'))
    refine bodyPost_ret (v := .tuple #[.agg #[.int .u64 0, .int .u64 0], .int .i64 1]) (by simp [results, Try.results58, go_sem]) rfl ⟨by rw [E, V, U], ?_⟩
    exact (Below.refl _ _).alloc (Nat.le_refl _) _
  · have E : M.eChk h n = 0 := M.eChk_ok hk
    have V : M.lowV h n = M.low h n := M.lowV_ok hk
    have U : M.highV h n = M.high h n := M.highV_ok hk
    obtain ⟨k1, k2, k3, k4⟩ := M.ok_of hk
    have hd := (M.ok_dep hk).2
    have hd0 := (M.ok_dep hk).1
    have l7 := M.p2_32 k2
    have l8 := M.p2_pos h
    obtain ⟨K, hK⟩ : ∃ K : Nat, h = M.dep n + K := ⟨(h - M.dep n).toNat, by omega⟩
    have HK : Hid (h = M.dep n + K) := hK
    have HR : Hid (∀ j : Nat, M.dep n + j ≤ h → _) := fun j hj => M.leaves_round hk j hj
    clear hK
    go_enter Try.func58, Try.ntmps58
    go_wp2_with (first | (go_at_call 42; refine (may_any _ _ _ (by omega) (by omega)).mono ?_; rintro e w' ⟨rfl, hw⟩; subst w'))
    go_loop [6, 7] (fun x y => ∃ j : Nat, j ≤ K ∧ x = .int .u64 (n * M.p2 j) ∧ y = .int .u64 ((n + 1) * M.p2 j - 1)) (fun x _ => (M.p2 h - intOf x).toNat)
    case atStart => exact ⟨0, by omega, by rw [show ((0 : Nat) : Int) = 0 from rfl, M.p2_zero, Int.mul_one], by rw [show ((0 : Nat) : Int) = 0 from rfl, M.p2_zero, Int.mul_one]; go_num⟩
    case round =>
      obtain ⟨j, hj, rfl, rfl⟩ := hrel
      obtain ⟨r1, r2, r3, r4, r5, r6, r7⟩ := HR.out j (by have := HK.out; omega)
      by_cases hlt : j < K
      · have r8 := r5.2 (by have := HK.out; omega)
        have r9 : 1 ≤ n * M.p2 (j : Int) := by
          have := Int.mul_le_mul k3 (M.p2_pos (j : Int)) (by omega) (by omega); omega
        have R6 : Hid (n * M.p2 ((j + 1 : Nat) : Int) = 2 * (n * M.p2 j)) := r6
        have R7 : Hid ((n + 1) * M.p2 ((j + 1 : Nat) : Int) - 1 = 2 * ((n + 1) * M.p2 j - 1) + 1) := r7
        clear r5 r6 r7 HR
        generalize n * M.p2 (j : Int) = x at *
        generalize (n + 1) * M.p2 (j : Int) - 1 = y at *
        go_wp2_with (first | (go_at_call 59; refine (power_any _ _ (by omega) (by omega)).mono ?_; rintro e w' ⟨rfl, hw⟩; subst w'))
        go_round
        case rel => exact ⟨j + 1, by omega, by rw [R6.out], by rw [R7.out]⟩
        case measure => simp [intOf]; omega
      · obtain rfl : j = K := by omega
        have r8 : ¬ (n * M.p2 (j : Int) < M.p2 h) := fun hh => by have := r5.1 hh; have := HK.out; omega
        have e1 : M.low h n = n * M.p2 (j : Int) - M.p2 h := by
          rw [M.low_num]; have := HK.out; rw [show h - M.dep n = (j : Int) by omega]
        have e2 : M.high h n = (n + 1) * M.p2 (j : Int) - 1 - M.p2 h := by
          rw [M.high_num]; have := HK.out; rw [show h - M.dep n = (j : Int) by omega]
        have r10 : n * M.p2 (j : Int) ≤ (n + 1) * M.p2 (j : Int) - 1 := by
          rw [Int.add_mul, Int.one_mul]; have := M.p2_pos (j : Int); omega
        have V' : Hid (M.lowV h n = n * M.p2 (j : Int) - M.p2 h) := V.trans e1
        have U' : Hid (M.highV h n = (n + 1) * M.p2 (j : Int) - 1 - M.p2 h) := U.trans e2
        clear r5 r6 r7 HR V U e1 e2
        generalize n * M.p2 (j : Int) = x at *
        generalize (n + 1) * M.p2 (j : Int) - 1 = y at *
        go_wp2_with (first | (go_at_call 59; refine (power_any _ _ (by omega) (by omega)).mono ?_; rintro e w' ⟨rfl, hw⟩; subst w'))
        refine bodyPost_ret (v := .tuple #[.agg #[.int .u64 (x - M.p2 h), .int .u64 (y - M.p2 h)], .int .i64 0]) (by simp [results, Try.results58, go_sem]) rfl ⟨by rw [E, V'.out, U'.out], ?_⟩
        exact (Below.refl _ _).alloc (Nat.le_refl _) _
end Go.Proofs.Ythmiieiajfghnaa
