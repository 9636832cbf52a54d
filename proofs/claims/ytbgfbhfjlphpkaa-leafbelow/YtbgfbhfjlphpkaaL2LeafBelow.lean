/-
  The law LeafBelow returns true at every input. Conditions: the numbers fit their kinds.
-/
import Derived.Test.YtbgfbhfjlphpkaaLN
import Derived.Test.YtbgfbhfjlphpkaaLB
namespace Go.Proofs.Ytbgfbhfjlphpkaa
open Go.RowKit
set_option maxRecDepth 100000 in
set_option maxHeartbeats 1000000 in
theorem leafBelow_walk (h : Int) (L : List Int) (v : Value) (n : Int) (w : World) (hu : Us w v L) (h0 : 0 ≤ n) (h1 : n ≤ 18446744073709551615) :
    Calls Try.prog 7 #[.int .i64 h, v, .int .u64 n] w fun e w' => e = .returned (.bool true) ∧ Below w.heap.size w w' := by
  have hu' := hu
  obtain ⟨ao, cap, rfl, hq1, hq2, _, _⟩ := hu'
  have hm : L.length ≤ maxLen := by omega
  unfold maxLen at hm
  generalize hn : L.length = m at *
  have T1 := hid trivial
  have T2 := hid trivial
  have T3 := hid trivial
  have T4 := hid trivial
  have T5 := hid trivial
  have T6 := hid trivial
  by_cases hl : m ≤ 60
  · cases hs : M.setB h L
    · have hE1 : M.belE h L 1 ≠ 0 := fun e => by rw [M.belE_one, hs] at e; cases e
      have hE2 : M.belE h L n ≠ 0 := fun e => by rw [M.belE_iff, hs] at e; cases e.1
      go_enter Try.func7, Try.ntmps7
      go_wp2_with (first | (go_at_call 9; refine (live2_any _).mono ?_; rintro e w1 ⟨rfl, hb1⟩; have hu1 := hu.below hb1) | (go_at_call 19; clear T1; refine (bel_no h L _ 1 _ hu1 (by omega) (by omega) hE1).mono ?_; rintro e w2 ⟨rfl, hb2⟩; have hu2 := hu1.below hb2) | (go_at_call 19; clear T2; refine (bel_no h L _ n _ hu2 (by omega) (by omega) hE2).mono ?_; rintro e w3 ⟨rfl, hb3⟩))
      go_ret
      exact ⟨rfl, below_trans (below_trans hb1 hb2) hb3⟩
    · have hE1 : M.belE h L 1 = 0 := M.belE_one.2 hs
      obtain ⟨s1, s2, s3, s4, s5, s6⟩ := M.set_of hs
      have HA : Hid (M.belL (M.low h 1) (M.high h 1) L = L) := by
        refine M.belL_all fun x hx => ?_
        rw [M.low_one, M.high_one]
        have := s6 x hx
        omega
      cases hk : M.okB h n
      · have hE2 : M.belE h L n ≠ 0 := fun e => by rw [M.belE_iff, hk] at e; cases e.2
        clear s4 s5 s6
        go_enter Try.func7, Try.ntmps7
        go_wp2_with (first | (go_at_call 9; refine (live2_any _).mono ?_; rintro e w1 ⟨rfl, hb1⟩; have hu1 := hu.below hb1) | (go_at_call 19; clear T1; refine (bel_yes h L _ 1 _ hu1 (by omega) (by omega) hE1).mono ?_; rw [HA.out]; rintro e w2 ⟨va, rfl, hown, hb2⟩; have hu2 := hu1.below hb2; have ua2 := Us.of_own hown hu.fits; clear hown) | (go_at_call 19; clear T2; refine (bel_no h L _ n _ hu2 (by omega) (by omega) hE2).mono ?_; rintro e w3 ⟨rfl, hb3⟩))
        go_ret
        exact ⟨rfl, below_trans (below_trans hb1 hb2) hb3⟩
      · have hE2 : M.belE h L n = 0 := M.belE_iff.2 ⟨hs, hk⟩
        have o8 : ∀ x ∈ M.belL (M.low h n) (M.high h n) L, 0 ≤ x ∧ x ≤ 18446744073709551615 := fun x hx => hu.fits x (List.mem_filter.1 hx).1
        have k3 := (M.ok_of hk).2.2.1
        have k4 := M.ok_lt hk
        by_cases hlf : n < M.p2 h
        · obtain ⟨q1, q2, q3, q4, q5⟩ := M.child_span hk hlf
          have hE3 : M.belE h L (2 * n) = 0 := M.belE_iff.2 ⟨hs, q4⟩
          have hE4 : M.belE h L (2 * n + 1) = 0 := M.belE_iff.2 ⟨hs, q5⟩
          have c0 : M.childE h n 0 = 0 := M.childE_yes hk (.inl rfl) hlf
          have c1 : M.childE h n 1 = 0 := M.childE_yes hk (.inr rfl) hlf
          have c2 : M.childV h n 0 = 2 * n := by unfold M.childV; rw [if_pos c0]; omega
          have c3 : M.childV h n 1 = 2 * n + 1 := by unfold M.childV; rw [if_pos c1]
          have x8 : ∀ x ∈ M.belL (M.low h (2 * n)) (M.high h (2 * n)) L, 0 ≤ x ∧ x ≤ 18446744073709551615 := fun x hx => hu.fits x (List.mem_filter.1 hx).1
          have y8 : ∀ x ∈ M.belL (M.low h (2 * n + 1)) (M.high h (2 * n + 1)) L, 0 ≤ x ∧ x ≤ 18446744073709551615 := fun x hx => hu.fits x (List.mem_filter.1 hx).1
          have xl : (M.belL (M.low h (2 * n)) (M.high h (2 * n)) L).length ≤ m := by rw [← hn]; exact List.length_filter_le _ _
          have yl : (M.belL (M.low h (2 * n + 1)) (M.high h (2 * n + 1)) L).length ≤ m := by rw [← hn]; exact List.length_filter_le _ _
          have l1 := (M.low_bd q4).2.1
          have l2 := (M.low_bd q5).2.1
          have hsp := M.belL_split (lo := M.low h n) (mid := M.high h (2 * n)) (hi := M.high h n) s5 (by omega) (by omega)
          have HS : Hid (M.belL (M.low h n) (M.high h n) L = [] ++ M.belL (M.low h (2 * n)) (M.high h (2 * n)) L ++ M.belL (M.low h (2 * n + 1)) (M.high h (2 * n + 1)) L) := by
            show _ = _
            rw [hsp, q3, q1, q2, List.nil_append]
          have r8 : ∀ x ∈ [] ++ M.belL (M.low h (2 * n)) (M.high h (2 * n)) L ++ M.belL (M.low h (2 * n + 1)) (M.high h (2 * n + 1)) L, 0 ≤ x ∧ x ≤ 18446744073709551615 := by
            rw [← HS.out]; exact o8
          generalize hO : M.belL (M.low h n) (M.high h n) L = O at *
          generalize hX : M.belL (M.low h (2 * n)) (M.high h (2 * n)) L = X at *
          generalize hY : M.belL (M.low h (2 * n + 1)) (M.high h (2 * n + 1)) L = Y at *
          have HO := hid hO
          have HX := hid hX
          have HY := hid hY
          obtain ⟨i0, hi, hz0, hz1, hz2⟩ := info_parts Try.infoU64
          clear hO hX hY s4 s5 s6 q1 q2 q3 l1 l2 hsp
          go_enter Try.func7, Try.ntmps7
          go_wp2_with (first | (go_at_call 9; refine (live2_any _).mono ?_; rintro e w1 ⟨rfl, hb1⟩; have hu1 := hu.below hb1) | (go_at_call 19; clear T1; refine (bel_yes h L _ 1 _ hu1 (by omega) (by omega) hE1).mono ?_; rw [HA.out]; rintro e w2 ⟨va, rfl, hown, hb2⟩; have hu2 := hu1.below hb2; have ua2 := Us.of_own hown hu.fits; clear hown) | (go_at_call 19; clear T2; refine (bel_yes h L _ n _ hu2 (by omega) (by omega) hE2).mono ?_; rw [HO.out]; rintro e w3 ⟨vo, rfl, hown, hb3⟩; have hu3 := hu2.below hb3; have ua3 := ua2.below hb3; have uo3 := Us.of_own hown o8; clear hown) | (go_at_call 16; clear T5; refine (same_yes L _ _ _ ua3 hu3).mono ?_; rintro e w4 ⟨rfl, hb4⟩; have hu4 := hu3.below hb4; have uo4 := uo3.below hb4) | (go_at_call 27; refine (child_any _ _ _ _ (by omega) (by omega)).mono ?_; rintro e w' ⟨rfl, hw⟩; subst w') | (go_at_call 19; clear T3; refine (bel_yes h L _ (2 * n) _ hu4 (by omega) (by omega) hE3).mono ?_; rw [HX.out]; rintro e w5 ⟨vx, rfl, hown, hb5⟩; have hu5 := hu4.below hb5; have uo5 := uo4.below hb5; have ux5 := Us.of_own hown x8; clear hown) | (go_at_call 19; clear T4; refine (bel_yes h L _ (2 * n + 1) _ hu5 (by omega) (by omega) hE4).mono ?_; rw [HY.out]; rintro e w6 ⟨vy, rfl, hown, hb6⟩; have uo6 := uo5.below hb6; have ux6 := ux5.below hb6; have uy6 := Us.of_own hown y8; clear hown) | (at_builtin; clear T6; refine wpList_append_us rfl _ _ 22 rfl w6.heap.size 23 i0 Try.underlying22 hi hz0 hz1 hz2 _ _ [] rfl (World.ownsRow_nil _ _ _ _) _ X rfl ux6 (by omega) (Nat.le_refl _) ?_; intro v7 w7 hown7 hgrow7; have hb7 : Below w6.heap.size w6 w7 := (Below.refl _ w6).grown hgrow7 (Nat.le_refl _) (fun q hq => by cases hq); have uy7 := uy6.below hb7; have uo7 := uo6.below hb7) | (at_builtin; refine wpList_append_us rfl _ _ 22 rfl w6.heap.size 23 i0 Try.underlying22 hi hz0 hz1 hz2 _ _ ([] ++ X) rfl hown7 _ Y rfl uy7 (by omega) hb7.size ?_; intro v8 w8 hown8 hgrow8; have hb8 : Below w6.heap.size w6 w8 := hb7.grown hgrow8 hb7.size (fun q hq => (hown7.lt q hq).1); have uo8 := uo6.below hb8; have ur8 := Us.of_own hown8 r8; clear hown8 hown7) | (go_at_call 16; refine (same_yes O _ _ _ uo8 (by have := ur8; rw [← HS.out] at this; exact this)).mono ?_; rintro e w9 ⟨rfl, hb9⟩))
          go_ret
          exact ⟨rfl, below_trans (below_trans (below_trans (below_trans (below_trans (below_trans (below_trans hb1 hb2) hb3) hb4) hb5) hb6) hb8) hb9⟩
        · have c0 : M.childE h n 0 = 4 := M.childE_no hk (.inl rfl) hlf
          have c1 : M.childE h n 1 = 4 := M.childE_no hk (.inr rfl) hlf
          have ol : (M.belL (M.low h n) (M.high h n) L).length ≤ 1 := by rw [← M.leaf_span hk hlf]; exact M.belL_one s5
          generalize hO : M.belL (M.low h n) (M.high h n) L = O at *
          have HO := hid hO
          clear hO s4 s5 s6
          go_enter Try.func7, Try.ntmps7
          go_wp2_with (first | (go_at_call 9; refine (live2_any _).mono ?_; rintro e w1 ⟨rfl, hb1⟩; have hu1 := hu.below hb1) | (go_at_call 19; clear T1; refine (bel_yes h L _ 1 _ hu1 (by omega) (by omega) hE1).mono ?_; rw [HA.out]; rintro e w2 ⟨va, rfl, hown, hb2⟩; have hu2 := hu1.below hb2; have ua2 := Us.of_own hown hu.fits; clear hown) | (go_at_call 19; clear T2; refine (bel_yes h L _ n _ hu2 (by omega) (by omega) hE2).mono ?_; rw [HO.out]; rintro e w3 ⟨vo, rfl, hown, hb3⟩; have hu3 := hu2.below hb3; have ua3 := ua2.below hb3; have uo3 := Us.of_own hown o8; clear hown; obtain ⟨ao3, cap3, rfl, _, _, _, _⟩ := uo3; generalize O.length = ln at *) | (go_at_call 16; clear T5; refine (same_yes L _ _ _ ua3 hu3).mono ?_; rintro e w4 ⟨rfl, hb4⟩) | (go_at_call 27; refine (child_any _ _ _ _ (by omega) (by omega)).mono ?_; rintro e w' ⟨rfl, hw⟩; subst w'))
          go_ret
          exact ⟨M.ret_bool (decide_eq_true (by omega)), below_trans (below_trans (below_trans hb1 hb2) hb3) hb4⟩
  · go_enter Try.func7, Try.ntmps7
    go_wp2_with (first | (go_at_call 9; refine (live2_any _).mono ?_; rintro e w1 ⟨rfl, hb1⟩; have hu1 := hu.below hb1))
    go_ret
    exact ⟨rfl, hb1⟩
end Go.Proofs.Ytbgfbhfjlphpkaa
