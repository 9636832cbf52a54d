/-
  The law LeafBack returns true at every input. Conditions: the numbers fit their kinds.
-/
import Derived.Test.YtbgfbhfjlphpkaaLN
namespace Go.Proofs.Ytbgfbhfjlphpkaa
open Go.RowKit
set_option maxRecDepth 100000 in
set_option maxHeartbeats 1000000 in
theorem leafBack_walk (h : Int) (L : List Int) (v : Value) (i k : Int) (w : World) (hu : Us w v L) (h0 : 0 ≤ i) (h1 : i ≤ 18446744073709551615) (h2 : 0 ≤ k) (h3 : k ≤ 18446744073709551615) :
    Calls Try.prog 6 #[.int .i64 h, v, .int .u64 i, .int .u64 k] w fun e w' => e = .returned (.bool true) ∧ Below w.heap.size w w' := by
  have hu' := hu
  obtain ⟨ao, cap, rfl, hq1, hq2, _, _⟩ := hu'
  have hm : L.length ≤ maxLen := by omega
  unfold maxLen at hm
  generalize hn : L.length = n at *
  by_cases hl : n ≤ 60
  · by_cases hE : M.withE h L i = 0
    · obtain ⟨a1, a2, a3, a4, a5, a6, a7, a8⟩ := M.with_facts h0 hE (by omega)
      have a9 := M.setE_yes a1
      have T1 := hid trivial
      have T2 := hid trivial
      have T3 := hid trivial
      have T4 := hid trivial
      have T5 := hid trivial
      by_cases hK : M.withE h L k = 0
      · obtain ⟨c1, c2, _, _, _, _, _, c8⟩ := M.with_facts h2 hK (by omega)
        by_cases hik : i = k
        · have g1 : (i == k) = true := by rw [beq_iff_eq]; exact hik
          generalize hA : M.withL L i = A at *
          have HA := hid hA
          have HO := hid a7
          generalize hC : M.withL L k = C at *
          have HC := hid hC
          clear hik a7 hA hC
          go_enter Try.func6, Try.ntmps6
          go_wp2_with (first | (go_at_call 9; refine (live2_any _).mono ?_; rintro e w1 ⟨rfl, hb1⟩; have hu1 := hu.below hb1) | (go_at_call 12; clear T1; refine (with_yes h L _ i _ hu1 h0 h1 hE).mono ?_; rw [HA.out]; rintro e w2 ⟨va, rfl, hown, hb2⟩; have hu2 := hu1.below hb2; have ua2 := Us.of_own hown a8; clear hown) | (go_at_call 14; refine (out_yes h A _ i _ ua2 h0 h1 a6).mono ?_; rw [HO.out]; rintro e w3 ⟨vb, rfl, hown, hb3⟩; have hu3 := hu2.below hb3; have ua3 := ua2.below hb3; have ub3 := Us.of_own hown hu.fits; clear hown) | (go_at_call 10; refine (has_any h A _ i _ ua3 h0 h1).mono ?_; rintro e w4 ⟨rfl, hb4⟩; have hu4 := hu3.below hb4; have ua4 := ua3.below hb4; have ub4 := ub3.below hb4) | (go_at_call 16; clear T5; refine (same_yes L _ _ _ ub4 hu4).mono ?_; rintro e w5 ⟨rfl, hb5⟩; have hu5 := hu4.below hb5; have ua5 := ua4.below hb5) | (go_at_call 17; refine (setCheck_any h A _ _ ua5).mono ?_; rintro e w6 ⟨rfl, hb6⟩; have hu6 := hu5.below hb6; have ua6 := ua5.below hb6) | (go_at_call 12; clear T2; refine (with_yes h L _ k _ hu6 h2 h3 hK).mono ?_; rw [HC.out]; rintro e w7 ⟨vc, rfl, hown, hb7⟩; have ua7 := ua6.below hb7; have uc7 := Us.of_own hown c8; clear hown))
          go_ret
          exact ⟨rfl, below_trans (below_trans (below_trans (below_trans (below_trans (below_trans hb1 hb2) hb3) hb4) hb5) hb6) hb7⟩
        · have g1 : (i == k) = false := by rw [beq_eq_false_iff_ne]; exact hik
          obtain ⟨t1, t2⟩ := M.with_two h0 hE hK hik (by omega)
          obtain ⟨t3, _⟩ := M.with_two h2 hK hE (fun e => hik e.symm) (by omega)
          have x8 : ∀ x ∈ M.withL (M.withL L i) k, 0 ≤ x ∧ x ≤ 18446744073709551615 := by
            intro x hx
            rcases M.withL_mem.1 hx with hx | rfl
            · exact a8 x hx
            · exact ⟨h2, h3⟩
          generalize hA : M.withL L i = A at *
          have HA := hid hA
          have HO := hid a7
          generalize hC : M.withL L k = C at *
          have HC := hid hC
          generalize hX : M.withL A k = X at *
          have HX := hid hX
          have HY := hid t2.symm
          clear hik a7 hA hC hX t2
          go_enter Try.func6, Try.ntmps6
          go_wp2_with (first | (go_at_call 9; refine (live2_any _).mono ?_; rintro e w1 ⟨rfl, hb1⟩; have hu1 := hu.below hb1) | (go_at_call 12; clear T1; refine (with_yes h L _ i _ hu1 h0 h1 hE).mono ?_; rw [HA.out]; rintro e w2 ⟨va, rfl, hown, hb2⟩; have hu2 := hu1.below hb2; have ua2 := Us.of_own hown a8; clear hown) | (go_at_call 14; refine (out_yes h A _ i _ ua2 h0 h1 a6).mono ?_; rw [HO.out]; rintro e w3 ⟨vb, rfl, hown, hb3⟩; have hu3 := hu2.below hb3; have ua3 := ua2.below hb3; have ub3 := Us.of_own hown hu.fits; clear hown) | (go_at_call 10; refine (has_any h A _ i _ ua3 h0 h1).mono ?_; rintro e w4 ⟨rfl, hb4⟩; have hu4 := hu3.below hb4; have ua4 := ua3.below hb4; have ub4 := ub3.below hb4) | (go_at_call 16; clear T5; refine (same_yes L _ _ _ ub4 hu4).mono ?_; rintro e w5 ⟨rfl, hb5⟩; have hu5 := hu4.below hb5; have ua5 := ua4.below hb5) | (go_at_call 17; refine (setCheck_any h A _ _ ua5).mono ?_; rintro e w6 ⟨rfl, hb6⟩; have hu6 := hu5.below hb6; have ua6 := ua5.below hb6) | (go_at_call 12; clear T2; refine (with_yes h L _ k _ hu6 h2 h3 hK).mono ?_; rw [HC.out]; rintro e w7 ⟨vc, rfl, hown, hb7⟩; have ua7 := ua6.below hb7; have uc7 := Us.of_own hown c8; clear hown) | (go_at_call 12; clear T3; refine (with_yes h A _ k _ ua7 h2 h3 t1).mono ?_; rw [HX.out]; rintro e w8 ⟨vx, rfl, hown, hb8⟩; have uc8 := uc7.below hb8; have ux8 := Us.of_own hown x8; clear hown) | (go_at_call 12; clear T4; refine (with_yes h C _ i _ uc8 h0 h1 t3).mono ?_; rw [HY.out]; rintro e w9 ⟨vy, rfl, hown, hb9⟩; have ux9 := ux8.below hb9; have uy9 := Us.of_own hown x8; clear hown) | (go_at_call 16; refine (same_yes X _ _ _ ux9 uy9).mono ?_; rintro e w10 ⟨rfl, hb10⟩))
          go_ret
          exact ⟨rfl, below_trans (below_trans (below_trans (below_trans (below_trans (below_trans (below_trans (below_trans (below_trans hb1 hb2) hb3) hb4) hb5) hb6) hb7) hb8) hb9) hb10⟩
      · have g1 : (M.withE h L k != 0) = true := by rw [bne_iff_ne]; exact hK
        generalize hA : M.withL L i = A at *
        have HA := hid hA
        have HO := hid a7
        clear a7 hA
        go_enter Try.func6, Try.ntmps6
        go_wp2_with (first | (go_at_call 9; refine (live2_any _).mono ?_; rintro e w1 ⟨rfl, hb1⟩; have hu1 := hu.below hb1) | (go_at_call 12; clear T1; refine (with_yes h L _ i _ hu1 h0 h1 hE).mono ?_; rw [HA.out]; rintro e w2 ⟨va, rfl, hown, hb2⟩; have hu2 := hu1.below hb2; have ua2 := Us.of_own hown a8; clear hown) | (go_at_call 14; refine (out_yes h A _ i _ ua2 h0 h1 a6).mono ?_; rw [HO.out]; rintro e w3 ⟨vb, rfl, hown, hb3⟩; have hu3 := hu2.below hb3; have ua3 := ua2.below hb3; have ub3 := Us.of_own hown hu.fits; clear hown) | (go_at_call 10; refine (has_any h A _ i _ ua3 h0 h1).mono ?_; rintro e w4 ⟨rfl, hb4⟩; have hu4 := hu3.below hb4; have ua4 := ua3.below hb4; have ub4 := ub3.below hb4) | (go_at_call 16; clear T5; refine (same_yes L _ _ _ ub4 hu4).mono ?_; rintro e w5 ⟨rfl, hb5⟩; have hu5 := hu4.below hb5; have ua5 := ua4.below hb5) | (go_at_call 17; refine (setCheck_any h A _ _ ua5).mono ?_; rintro e w6 ⟨rfl, hb6⟩; have hu6 := hu5.below hb6; have ua6 := ua5.below hb6) | (go_at_call 12; clear T2; refine (with_no h L _ k _ hu6 h2 h3 hK).mono ?_; rintro e w7 ⟨rfl, hb7⟩))
        go_ret
        exact ⟨rfl, below_trans (below_trans (below_trans (below_trans (below_trans (below_trans hb1 hb2) hb3) hb4) hb5) hb6) hb7⟩
    · have g1 : (M.withE h L i != 0) = true := by rw [bne_iff_ne]; exact hE
      go_enter Try.func6, Try.ntmps6
      go_wp2_with (first | (go_at_call 9; refine (live2_any _).mono ?_; rintro e w1 ⟨rfl, hb1⟩; have hu1 := hu.below hb1) | (go_at_call 12; refine (with_no h L _ i _ hu1 h0 h1 hE).mono ?_; rintro e w2 ⟨rfl, hb2⟩))
      go_ret
      exact ⟨rfl, below_trans hb1 hb2⟩
  · go_enter Try.func6, Try.ntmps6
    go_wp2_with (first | (go_at_call 9; refine (live2_any _).mono ?_; rintro e w1 ⟨rfl, hb1⟩; have hu1 := hu.below hb1))
    go_ret
    exact ⟨rfl, hb1⟩
end Go.Proofs.Ytbgfbhfjlphpkaa
