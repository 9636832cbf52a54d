/-
  What the document answers, at every input: whether there is such a height and scheme, and whether a subset may be of a scheme. Conditions: the numbers fit their kind.
-/
import Derived.Test.YtmicgojojkkkhaaGreatZNZ
import Derived.Test.YtmicgojojkkkhaaGreatZTR
namespace Go.Proofs.YtmicgojojkkkhaaGreat
open Go.RowKit
set_option maxRecDepth 100000 in
set_option maxHeartbeats 1000000 in
theorem rscheme_any (h k : Int) (w : World) : Calls Tryz.prog 18 #[.int .i64 h, .int .i64 k] w fun e w' => e = .returned (.bool (M.htB h && M.kB k)) ∧ w' = w := by
  unfold M.kB
  cases hh : M.htB h with
  | false =>
    go_enter Tryz.func18, Tryz.ntmps18
    go_wp2_with (first | (go_at_call 47; refine (may_any h 1 _ (by omega) (by omega)).mono ?_; rw [M.ok_one, hh]; rintro e w' ⟨rfl, hw⟩; subst w'))
    go_ret
    exact ⟨rfl, rfl⟩
  | true =>
    by_cases c1 : 1 ≤ k
    · rw [decide_eq_true c1]
      go_enter Tryz.func18, Tryz.ntmps18
      go_wp2_with (first | (go_at_call 47; refine (may_any h 1 _ (by omega) (by omega)).mono ?_; rw [M.ok_one, hh]; rintro e w' ⟨rfl, hw⟩; subst w'))
      go_ret
      exact ⟨rfl, rfl⟩
    · rw [decide_eq_false c1]
      go_enter Tryz.func18, Tryz.ntmps18
      go_wp2_with (first | (go_at_call 47; refine (may_any h 1 _ (by omega) (by omega)).mono ?_; rw [M.ok_one, hh]; rintro e w' ⟨rfl, hw⟩; subst w'))
      go_ret
      exact ⟨rfl, rfl⟩
set_option maxRecDepth 100000 in
set_option maxHeartbeats 2000000 in
theorem rlmay_any (h k I J : Int) (w : World) (h0 : 0 ≤ I) (h1 : I ≤ 18446744073709551615) (h2 : 0 ≤ J) (h3 : J ≤ 18446744073709551615) :
    Calls Tryz.prog 10 #[.int .i64 h, .int .i64 k, .agg #[.int .u64 I, .int .u64 J]] w fun e w' => e = .returned (.tuple #[.bool (M.myV h k I J), .int .i64 (M.myE h k I J)]) ∧ Below w.heap.size w w' := by
  have HA := hidq (fun o => (Below.refl _ w).alloc (Nat.le_refl w.heap.size) o)
  have hX := Bi.new w 25 I J
  obtain ⟨X0a, X0b⟩ := hX.facts
  cases hk : M.kB k with
  | false =>
    rw [show M.myV h k I J = false by unfold M.myV; rw [hk]; rfl, show M.myE h k I J = 1 by unfold M.myE; rw [hk]; rfl]
    have hsc : (M.htB h && M.kB k) = false := by rw [hk, Bool.and_false]
    go_enter Tryz.func10, Tryz.ntmps10
    go_wp2_with (first | (go_at_call 18; refine (rscheme_any h _ _).mono ?_; rw [hsc]; rintro e w' ⟨rfl, hw⟩; subst w'))
    go_ret2
    exact ⟨rfl, HA.out _⟩
  | true =>
    cases hs : M.subB h I J with
    | false =>
      rw [show M.myV h k I J = false by unfold M.myV; rw [hs, Bool.and_false]; rfl, show M.myE h k I J = 1 by unfold M.myE; rw [hs, Bool.and_false]; rfl]
      have hse := M.subE_no hs
      cases hh : M.htB h with
      | false =>
        have hsc : (M.htB h && M.kB k) = false := by rw [hh]; rfl
        go_enter Tryz.func10, Tryz.ntmps10
        go_wp2_with (first | (go_at_call 18; refine (rscheme_any h _ _).mono ?_; rw [hsc]; rintro e w' ⟨rfl, hw⟩; subst w'))
        go_ret2
        exact ⟨rfl, HA.out _⟩
      | true =>
        have hsc : (M.htB h && M.kB k) = true := by rw [hh, hk]; rfl
        go_enter Tryz.func10, Tryz.ntmps10
        go_wp2_with (first | (go_at_call 18; refine (rscheme_any h _ _).mono ?_; rw [hsc]; rintro e w' ⟨rfl, hw⟩; subst w') | (go_at_call 29; refine (rcheck8_any h I J _ h0 h1 h2 h3).mono ?_; rw [hse]; rintro e w1 ⟨rfl, hb1⟩; have X1 := (Bi.new w 25 I J).below hb1; obtain ⟨X1a, X1b⟩ := X1.facts; have hB1 := below_trans (HA.out _) hb1))
        go_ret2
        exact ⟨rfl, hB1⟩
    | true =>
      have hse := M.subE_yes hs
      have hh : M.htB h = true := by have := M.ok_of (M.sub_of hs).1; exact M.ht_mk this.1 this.2.1
      have hsc : (M.htB h && M.kB k) = true := by rw [hh, hk]; rfl
      unfold M.myV M.myE
      rw [hk, hs]
      rcases M.kB_of hk with rfl | rfl | rfl
      · rw [if_pos rfl]
        by_cases hJ : J = 0
        · rw [decide_eq_true hJ]
          subst hJ
          go_enter Tryz.func10, Tryz.ntmps10
          go_wp2_with (first | (go_at_call 18; refine (rscheme_any h _ _).mono ?_; rw [hsc]; rintro e w' ⟨rfl, hw⟩; subst w') | (go_at_call 29; refine (rcheck8_any h I _ _ h0 h1 (by omega) (by omega)).mono ?_; rw [hse]; rintro e w1 ⟨rfl, hb1⟩; have X1 := (Bi.new w 25 I _).below hb1; obtain ⟨X1a, X1b⟩ := X1.facts; have hB1 := below_trans (HA.out _) hb1))
          go_ret2
          exact ⟨rfl, hB1⟩
        · rw [decide_eq_false hJ]
          have hJb : (J == 0) = false := by rw [beq_eq_false_iff_ne]; exact hJ
          go_enter Tryz.func10, Tryz.ntmps10
          go_wp2_with (first | (go_at_call 18; refine (rscheme_any h _ _).mono ?_; rw [hsc]; rintro e w' ⟨rfl, hw⟩; subst w') | (go_at_call 29; refine (rcheck8_any h I J _ h0 h1 h2 h3).mono ?_; rw [hse]; rintro e w1 ⟨rfl, hb1⟩; have X1 := (Bi.new w 25 I J).below hb1; obtain ⟨X1a, X1b⟩ := X1.facts; have hB1 := below_trans (HA.out _) hb1))
          go_ret2
          exact ⟨rfl, hB1⟩
      · rw [if_neg (show ¬ (2 : Int) = 1 by decide), if_pos (rfl : (2 : Int) = 2)]
        obtain ⟨r, hr⟩ : ∃ r, decide (I = 1) = r := ⟨_, rfl⟩
        have hr' : (I == 1) = r := hr
        rw [hr]
        by_cases hJ : J = 0
        · rw [decide_eq_true hJ]
          subst hJ
          clear hr
          go_enter Tryz.func10, Tryz.ntmps10
          go_wp2_with (first | (go_at_call 18; refine (rscheme_any h _ _).mono ?_; rw [hsc]; rintro e w' ⟨rfl, hw⟩; subst w') | (go_at_call 29; refine (rcheck8_any h I _ _ h0 h1 (by omega) (by omega)).mono ?_; rw [hse]; rintro e w1 ⟨rfl, hb1⟩; have X1 := (Bi.new w 25 I _).below hb1; obtain ⟨X1a, X1b⟩ := X1.facts; have hB1 := below_trans (HA.out _) hb1))
          go_ret2
          exact ⟨rfl, hB1⟩
        · rw [decide_eq_false hJ]
          have hJb : (J == 0) = false := by rw [beq_eq_false_iff_ne]; exact hJ
          clear hr
          go_enter Tryz.func10, Tryz.ntmps10
          go_wp2_with (first | (go_at_call 18; refine (rscheme_any h _ _).mono ?_; rw [hsc]; rintro e w' ⟨rfl, hw⟩; subst w') | (go_at_call 29; refine (rcheck8_any h I J _ h0 h1 h2 h3).mono ?_; rw [hse]; rintro e w1 ⟨rfl, hb1⟩; have X1 := (Bi.new w 25 I J).below hb1; obtain ⟨X1a, X1b⟩ := X1.facts; have hB1 := below_trans (HA.out _) hb1))
          go_ret2
          exact ⟨rfl, hB1⟩
      · rw [if_neg (show ¬ (3 : Int) = 1 by decide), if_neg (show ¬ (3 : Int) = 2 by decide)]
        have huv : M.useV h I J = M.useB h I J := by unfold M.useV; rw [hs]; rfl
        generalize M.useB h I J = r at *
        go_enter Tryz.func10, Tryz.ntmps10
        go_wp2_with (first | (go_at_call 18; refine (rscheme_any h _ _).mono ?_; rw [hsc]; rintro e w' ⟨rfl, hw⟩; subst w') | (go_at_call 29; refine (rcheck8_any h I J _ h0 h1 h2 h3).mono ?_; rw [hse]; rintro e w1 ⟨rfl, hb1⟩; have X1 := (Bi.new w 25 I J).below hb1; obtain ⟨X1a, X1b⟩ := X1.facts; have hB1 := below_trans (HA.out _) hb1) | (go_at_call 30; refine (ruseful_any h I J _ h0 h1 h2 h3).mono ?_; rw [hse, huv]; rintro e w2 ⟨rfl, hb2⟩; have hB2 := below_trans hB1 hb2))
        go_ret2
        exact ⟨rfl, hB2⟩
end Go.Proofs.YtmicgojojkkkhaaGreat
