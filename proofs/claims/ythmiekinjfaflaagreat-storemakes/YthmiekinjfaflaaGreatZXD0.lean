/-
  What layer.May answers at every input. Conditions: the numbers fit their kind.
-/
import Derived.Test.YthmiekinjfaflaaGreatZNZ
import Derived.Test.YthmiekinjfaflaaGreatZTR
namespace Go.Proofs.YthmiekinjfaflaaGreat
open Go.RowKit
theorem M.kB_not {k : Int} (hk : M.kB k = false) : ¬ k = 1 ∧ ¬ k = 2 ∧ ¬ k = 3 := by
  unfold M.kB at hk
  simp only [Bool.and_eq_false_iff, decide_eq_false_iff_not] at hk
  omega
set_option maxRecDepth 100000 in
set_option maxHeartbeats 2000000 in
theorem lmay_any (h k I J : Int) (w : World) (h0 : 0 ≤ I) (h1 : I ≤ 18446744073709551615) (h2 : 0 ≤ J) (h3 : J ≤ 18446744073709551615) :
    Calls Tryz.prog 49 #[.int .i64 h, .int .i64 k, .agg #[.int .u64 I, .int .u64 J]] w fun e w' => e = .returned (.tuple #[.bool (M.myV h k I J), .int .i64 (M.myE h k I J)]) ∧ Below w.heap.size w w' := by
  have HA := hidq (fun o => (Below.refl _ w).alloc (Nat.le_refl w.heap.size) o)
  have hX := Bi.new w 46 I J
  obtain ⟨X0a, X0b⟩ := hX.facts
  cases hs : M.subB h I J with
  | false =>
    rw [show M.myV h k I J = false by unfold M.myV; rw [hs, Bool.and_false]; rfl, show M.myE h k I J = 1 by unfold M.myE; rw [hs, Bool.and_false]; rfl]
    have hse := M.subE_no hs
    go_enter Tryz.func49, Tryz.ntmps49
    go_wp2_with (first | (go_at_call 53; refine (check8_any h I J _ h0 h1 h2 h3).mono ?_; rw [hse]; rintro e w1 ⟨rfl, hb1⟩; have X1 := (Bi.new w 46 I J).below hb1; obtain ⟨X1a, X1b⟩ := X1.facts; have hB1 := below_trans (HA.out _) hb1))
    go_ret2
    exact ⟨rfl, hB1⟩
  | true =>
    have hse := M.subE_yes hs
    cases hk : M.kB k with
    | false =>
      rw [show M.myV h k I J = false by unfold M.myV; rw [hk]; rfl, show M.myE h k I J = 1 by unfold M.myE; rw [hk]; rfl]
      obtain ⟨k1, k2, k3⟩ := M.kB_not hk
      have k4 : (k == 1) = false := by rw [beq_eq_false_iff_ne]; exact k1
      have k5 : (k == 2) = false := by rw [beq_eq_false_iff_ne]; exact k2
      have k6 : (k == 3) = false := by rw [beq_eq_false_iff_ne]; exact k3
      go_enter Tryz.func49, Tryz.ntmps49
      go_wp2_with (first | (go_at_call 53; refine (check8_any h I J _ h0 h1 h2 h3).mono ?_; rw [hse]; rintro e w1 ⟨rfl, hb1⟩; have X1 := (Bi.new w 46 I J).below hb1; obtain ⟨X1a, X1b⟩ := X1.facts; have hB1 := below_trans (HA.out _) hb1))
      go_ret2
      exact ⟨rfl, hB1⟩
    | true =>
      unfold M.myV M.myE
      rw [hk, hs]
      rcases M.kB_of hk with rfl | rfl | rfl
      · rw [if_pos rfl]
        by_cases hJ : J = 0
        · rw [decide_eq_true hJ]
          subst hJ
          go_enter Tryz.func49, Tryz.ntmps49
          go_wp2_with (first | (go_at_call 53; refine (check8_any h I _ _ h0 h1 (by omega) (by omega)).mono ?_; rw [hse]; rintro e w1 ⟨rfl, hb1⟩; have X1 := (Bi.new w 46 I _).below hb1; obtain ⟨X1a, X1b⟩ := X1.facts; have hB1 := below_trans (HA.out _) hb1))
          go_ret2
          exact ⟨rfl, hB1⟩
        · rw [decide_eq_false hJ]
          have hJb : (J == 0) = false := by rw [beq_eq_false_iff_ne]; exact hJ
          go_enter Tryz.func49, Tryz.ntmps49
          go_wp2_with (first | (go_at_call 53; refine (check8_any h I J _ h0 h1 h2 h3).mono ?_; rw [hse]; rintro e w1 ⟨rfl, hb1⟩; have X1 := (Bi.new w 46 I J).below hb1; obtain ⟨X1a, X1b⟩ := X1.facts; have hB1 := below_trans (HA.out _) hb1))
          go_ret2
          exact ⟨rfl, hB1⟩
      · rw [if_neg (show ¬ (2 : Int) = 1 by decide), if_pos (rfl : (2 : Int) = 2)]
        obtain ⟨r, hr⟩ : ∃ r, decide (I = 1) = r := ⟨_, rfl⟩
        have hr' : (I == 1) = r := hr
        rw [hr]
        by_cases hJ : J = 0
        · rw [decide_eq_true hJ]
          subst hJ
          clear hr
          go_enter Tryz.func49, Tryz.ntmps49
          go_wp2_with (first | (go_at_call 53; refine (check8_any h I _ _ h0 h1 (by omega) (by omega)).mono ?_; rw [hse]; rintro e w1 ⟨rfl, hb1⟩; have X1 := (Bi.new w 46 I _).below hb1; obtain ⟨X1a, X1b⟩ := X1.facts; have hB1 := below_trans (HA.out _) hb1))
          go_ret2
          exact ⟨rfl, hB1⟩
        · rw [decide_eq_false hJ]
          have hJb : (J == 0) = false := by rw [beq_eq_false_iff_ne]; exact hJ
          clear hr
          go_enter Tryz.func49, Tryz.ntmps49
          go_wp2_with (first | (go_at_call 53; refine (check8_any h I J _ h0 h1 h2 h3).mono ?_; rw [hse]; rintro e w1 ⟨rfl, hb1⟩; have X1 := (Bi.new w 46 I J).below hb1; obtain ⟨X1a, X1b⟩ := X1.facts; have hB1 := below_trans (HA.out _) hb1))
          go_ret2
          exact ⟨rfl, hB1⟩
      · rw [if_neg (show ¬ (3 : Int) = 1 by decide), if_neg (show ¬ (3 : Int) = 2 by decide)]
        have huv : M.useV h I J = M.useB h I J := by unfold M.useV; rw [hs]; rfl
        generalize M.useB h I J = r at *
        go_enter Tryz.func49, Tryz.ntmps49
        go_wp2_with (first | (go_at_call 53; refine (check8_any h I J _ h0 h1 h2 h3).mono ?_; rw [hse]; rintro e w1 ⟨rfl, hb1⟩; have X1 := (Bi.new w 46 I J).below hb1; obtain ⟨X1a, X1b⟩ := X1.facts; have hB1 := below_trans (HA.out _) hb1) | (go_at_call 69; refine (useful_any h I J _ h0 h1 h2 h3).mono ?_; rw [hse, huv]; rintro e w2 ⟨rfl, hb2⟩; have hB2 := below_trans hB1 hb2))
        go_ret2
        exact ⟨rfl, hB2⟩
end Go.Proofs.YthmiekinjfaflaaGreat
