/-
  The law SteinerAbove returns true at every input: a node above one that is of the tree is of it; of a set with one leaf less the tree has no other nodes. Conditions: the slice holds numbers, the numbers fit their kinds.
-/
import Derived.Test.YthmiieiajfghnaaZO10
import Derived.Test.YthmiieiajfghnaaZO11
import Derived.Test.YthmiieiajfghnaaZO9
import Derived.Test.YthmiieiajfghnaaZOQ
import Derived.Test.YthmiieiajfghnaaZTR
namespace Go.Proofs.Ythmiieiajfghnaa
open Go.RowKit
theorem us_tail {W : World} {b off n cap m : Nat} {x : Int} {L : List Int} (h : Us W (.slice (some ⟨b, off, none⟩) n cap) (x :: L)) (hm : m = L.length) :
    Us W (.slice (if cap = 1 then some ⟨b, off, none⟩ else some ⟨b, off + 1, none⟩) m (cap - 1)) L := by
  subst hm
  obtain ⟨ao, c, e, h2, h3, h4, h5⟩ := h
  cases e
  rw [List.length_cons] at h2 h5
  by_cases hc : cap = 1
  · have hL : L = [] := List.eq_nil_of_length_eq_zero (by omega)
    subst hL
    rw [if_pos hc]
    subst hc
    exact ⟨_, 0, rfl, by simp, by simp, by simp, fun h => by omega⟩
  · rw [if_neg hc]
    obtain ⟨b', off', e2, h7, h8⟩ := h5 (by omega)
    cases e2
    refine ⟨_, cap - 1, rfl, by omega, by omega, fun y hy => h4 y (List.mem_cons_of_mem _ hy), fun h0 => ⟨b, off + 1, rfl, h7, fun j hj => ?_⟩⟩
    rw [show off + 1 + j = off + (j + 1) by omega, h8 (j + 1) (by omega)]; rfl
set_option maxRecDepth 100000 in
set_option maxHeartbeats 4000000 in
theorem steinerAbove_long (h : Int) (L : List Int) (v : Value) (n a : Int) (w : World) (hu : Us w v L) (hl : ¬ L.length ≤ 30) :
    Calls Try.prog 8 #[.int .i64 h, v, .int .u64 n, .int .u64 a] w fun e w' => e = .returned (.bool true) ∧ Below w.heap.size w w' := by
  obtain ⟨ao, cap, rfl, -⟩ := us_view hu
  have hB0 := Below.refl w.heap.size w
  have hli : (30 : Int) < L.length := by omega
  clear hl hu
  have T1 := hidq trivial
  go_enter Try.func8, Try.ntmps8
  go_wp2_with (first | (go_at_call 9; clear T1; refine (live9_any _).mono ?_; rintro e w1 ⟨rfl, hb1⟩; have hB1 := below_trans hB0 hb1))
  go_ret
  exact ⟨rfl, hB1⟩
set_option maxRecDepth 100000 in
set_option maxHeartbeats 4000000 in
theorem steinerAbove_no (h : Int) (L : List Int) (v : Value) (n a : Int) (w : World) (hu : Us w v L) (h0 : 0 ≤ n) (h1 : n ≤ 18446744073709551615) (h2 : 0 ≤ a) (h3 : a ≤ 18446744073709551615) (hl : L.length ≤ 30) (hE : ¬ M.belE h L n = 0) :
    Calls Try.prog 8 #[.int .i64 h, v, .int .u64 n, .int .u64 a] w fun e w' => e = .returned (.bool true) ∧ Below w.heap.size w w' := by
  obtain ⟨ao, cap, rfl, -⟩ := us_view hu
  have hB0 := Below.refl w.heap.size w
  have U0 := hu
  have hli : ¬ (30 : Int) < L.length := by omega
  have AC := hidq (fun W v (u : Us W v L) => stIs_any h L v n W u h0 h1)
  have BC := hidq (fun W v (u : Us W v L) => stIs_any h L v a W u h2 h3)
  rw [(M.belV_no hE).2] at AC
  generalize M.belE h L a = r4 at *
  generalize M.isV h L n = r1 at *
  generalize M.isV h L a = r2 at *
  generalize hr3 : M.abvV h a n = r3
  generalize hr5 : M.eBoth h a n = r5
  clear hu hl hE
  have T1 := hidq trivial
  have T2 := hidq trivial
  have T3 := hidq trivial
  go_enter Try.func8, Try.ntmps8
  go_wp2_with (first | (go_at_call 9; clear T1; refine (live9_any _).mono ?_; rintro e w1 ⟨rfl, hb1⟩; have U1 := (U0.below hb1); clear U0; have hB1 := below_trans hB0 hb1) | (go_at_call 10; clear T2; refine (AC.out _ _ U1).mono ?_; rintro e w2 ⟨rfl, hb2⟩; have U2 := (U1.below hb2); clear U1; have hB2 := below_trans hB1 hb2) | (go_at_call 10; clear T3; refine (BC.out _ _ U2).mono ?_; rintro e w3 ⟨rfl, hb3⟩; have U3 := (U2.below hb3); clear U2; have hB3 := below_trans hB2 hb3) | (go_at_call 22; refine (above_any h a n _ h2 h3 h0 h1).mono ?_; rintro e w' ⟨rfl, hw⟩; subst w'))
  all_goals go_ret
  all_goals exact ⟨rfl, hB3⟩
set_option maxRecDepth 100000 in
set_option maxHeartbeats 4000000 in
theorem steinerAbove_no2 (h : Int) (L : List Int) (v : Value) (n a : Int) (w : World) (hu : Us w v L) (h0 : 0 ≤ n) (h1 : n ≤ 18446744073709551615) (h2 : 0 ≤ a) (h3 : a ≤ 18446744073709551615) (hl : L.length ≤ 30) (hE : M.belE h L n = 0) (hE2 : ¬ M.belE h L a = 0) :
    Calls Try.prog 8 #[.int .i64 h, v, .int .u64 n, .int .u64 a] w fun e w' => e = .returned (.bool true) ∧ Below w.heap.size w w' := by
  obtain ⟨ao, cap, rfl, -⟩ := us_view hu
  have hB0 := Below.refl w.heap.size w
  have U0 := hu
  have hli : ¬ (30 : Int) < L.length := by omega
  have AC := hidq (fun W v (u : Us W v L) => stIs_any h L v n W u h0 h1)
  have BC := hidq (fun W v (u : Us W v L) => stIs_any h L v a W u h2 h3)
  rw [hE] at AC
  rw [(M.belV_no hE2).2] at BC
  generalize M.isV h L n = r1 at *
  generalize M.isV h L a = r2 at *
  generalize hr3 : M.abvV h a n = r3
  generalize hr5 : M.eBoth h a n = r5
  clear hu hl hE hE2
  have T1 := hidq trivial
  have T2 := hidq trivial
  have T3 := hidq trivial
  go_enter Try.func8, Try.ntmps8
  go_wp2_with (first | (go_at_call 9; clear T1; refine (live9_any _).mono ?_; rintro e w1 ⟨rfl, hb1⟩; have U1 := (U0.below hb1); clear U0; have hB1 := below_trans hB0 hb1) | (go_at_call 10; clear T2; refine (AC.out _ _ U1).mono ?_; rintro e w2 ⟨rfl, hb2⟩; have U2 := (U1.below hb2); clear U1; have hB2 := below_trans hB1 hb2) | (go_at_call 10; clear T3; refine (BC.out _ _ U2).mono ?_; rintro e w3 ⟨rfl, hb3⟩; have U3 := (U2.below hb3); clear U2; have hB3 := below_trans hB2 hb3) | (go_at_call 22; refine (above_any h a n _ h2 h3 h0 h1).mono ?_; rintro e w' ⟨rfl, hw⟩; subst w'))
  all_goals go_ret
  all_goals exact ⟨rfl, hB3⟩
set_option maxRecDepth 100000 in
set_option maxHeartbeats 4000000 in
theorem steinerAbove_nil (h : Int) (v : Value) (n a : Int) (w : World) (hu : Us w v []) (h0 : 0 ≤ n) (h1 : n ≤ 18446744073709551615) (h2 : 0 ≤ a) (h3 : a ≤ 18446744073709551615) (hs : M.setB h [] = true) (hn : M.okB h n = true) (ha : M.okB h a = true) :
    Calls Try.prog 8 #[.int .i64 h, v, .int .u64 n, .int .u64 a] w fun e w' => e = .returned (.bool true) ∧ Below w.heap.size w w' := by
  obtain ⟨v1, v2⟩ := M.isV_yes hs hn
  obtain ⟨v3, v4⟩ := M.isV_yes hs ha
  have e1 := M.eBoth_ok ha hn
  obtain ⟨L, hL⟩ : ∃ L : List Int, L = [] := ⟨_, rfl⟩
  have v5 : M.inT h L n = false := by rw [hL]; unfold M.inT; simp
  have v6 : M.inT h L a = false := by rw [hL]; unfold M.inT; simp
  rw [← hL] at hu v1 v2 v3 v4
  have hl0 : (L.length : Int) = 0 := by rw [hL]; rfl
  obtain ⟨ao, cap, rfl, -⟩ := us_view hu
  have hB0 := Below.refl w.heap.size w
  have U0 := hu
  have hli : ¬ (30 : Int) < L.length := by omega
  have AC := hidq (fun W v (u : Us W v L) => stIs_any h L v n W u h0 h1)
  have BC := hidq (fun W v (u : Us W v L) => stIs_any h L v a W u h2 h3)
  rw [v1, v2, v5] at AC
  rw [v3, v4, v6] at BC
  obtain ⟨r3, hr3⟩ : ∃ r, M.abvV h a n = r := ⟨_, rfl⟩
  clear hu hs hn ha v1 v2 v3 v4 v5 v6 hL
  cases r3
  · skip
    have T1 := hidq trivial
    have T2 := hidq trivial
    have T3 := hidq trivial
    go_enter Try.func8, Try.ntmps8
    go_wp2_with (first | (go_at_call 9; clear T1; refine (live9_any _).mono ?_; rintro e w1 ⟨rfl, hb1⟩; have U1 := (U0.below hb1); clear U0; have hB1 := below_trans hB0 hb1) | (go_at_call 10; clear T2; refine (AC.out _ _ U1).mono ?_; rintro e w2 ⟨rfl, hb2⟩; have U2 := (U1.below hb2); clear U1; have hB2 := below_trans hB1 hb2) | (go_at_call 10; clear T3; refine (BC.out _ _ U2).mono ?_; rintro e w3 ⟨rfl, hb3⟩; have U3 := (U2.below hb3); clear U2; have hB3 := below_trans hB2 hb3) | (go_at_call 22; refine (above_any h a n _ h2 h3 h0 h1).mono ?_; rintro e w' ⟨rfl, hw⟩; subst w'))
    go_ret
    exact ⟨rfl, hB3⟩
  · skip
    have T1 := hidq trivial
    have T2 := hidq trivial
    have T3 := hidq trivial
    go_enter Try.func8, Try.ntmps8
    go_wp2_with (first | (go_at_call 9; clear T1; refine (live9_any _).mono ?_; rintro e w1 ⟨rfl, hb1⟩; have U1 := (U0.below hb1); clear U0; have hB1 := below_trans hB0 hb1) | (go_at_call 10; clear T2; refine (AC.out _ _ U1).mono ?_; rintro e w2 ⟨rfl, hb2⟩; have U2 := (U1.below hb2); clear U1; have hB2 := below_trans hB1 hb2) | (go_at_call 10; clear T3; refine (BC.out _ _ U2).mono ?_; rintro e w3 ⟨rfl, hb3⟩; have U3 := (U2.below hb3); clear U2; have hB3 := below_trans hB2 hb3) | (go_at_call 22; refine (above_any h a n _ h2 h3 h0 h1).mono ?_; rintro e w' ⟨rfl, hw⟩; subst w'))
    go_ret
    exact ⟨rfl, hB3⟩
set_option maxRecDepth 100000 in
set_option maxHeartbeats 8000000 in
theorem steinerAbove_cons (h x : Int) (t : List Int) (v : Value) (n a : Int) (w : World) (hu : Us w v (x :: t)) (h0 : 0 ≤ n) (h1 : n ≤ 18446744073709551615) (h2 : 0 ≤ a) (h3 : a ≤ 18446744073709551615) (hl : (x :: t).length ≤ 30) (hs : M.setB h (x :: t) = true) (hn : M.okB h n = true) (ha : M.okB h a = true) :
    Calls Try.prog 8 #[.int .i64 h, v, .int .u64 n, .int .u64 a] w fun e w' => e = .returned (.bool true) ∧ Below w.heap.size w w' := by
  obtain ⟨v1, v2⟩ := M.isV_yes hs hn
  obtain ⟨v3, v4⟩ := M.isV_yes hs ha
  have hs2 := M.tail_set hs
  obtain ⟨v5, v6⟩ := M.isV_yes hs2 hn
  have e1 := M.eBoth_ok ha hn
  have e2 := M.abvV_ok ha hn
  obtain ⟨t1, t2⟩ := M.tree_tail hs
  have t3 := (M.tree_facts hs).2.2
  have m1 : M.tmV h (x :: t) = (M.tree h (x :: t)).length := by unfold M.tmV; rw [if_pos (M.setE_zero.2 hs)]
  have m2 : M.tmV h t = (M.tree h t).length := by unfold M.tmV; rw [if_pos (M.setE_zero.2 hs2)]
  obtain ⟨s1, s2, -⟩ := M.set_of hs
  have z1 := M.setE_zero.2 hs
  have z2 := M.setE_zero.2 hs2
  have k1 : M.abv a n = true → M.inT h (x :: t) n = true → M.inT h (x :: t) a = true := fun g1 g2 => M.inT_above ha g1 g2
  have k2 : M.inT h t n = true → M.inT h (x :: t) n = true := fun g => M.inT_tail g
  obtain ⟨ao, cap, rfl, -, hv⟩ := us_view hu
  obtain ⟨b, off, rfl, -⟩ := hv (by simp)
  rw [List.length_cons] at hu hl ⊢
  have hB0 := Below.refl w.heap.size w
  have U0 := hu
  have hli : ¬ (30 : Int) < (t.length : Int) + 1 := by omega
  have hl0 : ¬ (t.length : Int) + 1 = 0 := by omega
  have hl1 : (((t.length : Int) + 1) == 0) = false := by rw [beq_eq_false_iff_ne]; omega
  have AC := hidq (fun W v (u : Us W v (x :: t)) => stIs_any h (x :: t) v n W u h0 h1)
  have BC := hidq (fun W v (u : Us W v (x :: t)) => stIs_any h (x :: t) v a W u h2 h3)
  have TC := hidq (fun W v (u : Us W v t) => stIs_any h t v n W u h0 h1)
  have MC := hidq (fun W v (u : Us W v (x :: t)) => stMany_any h (x :: t) v W u)
  have NC := hidq (fun W v (u : Us W v t) => stMany_any h t v W u)
  rw [v1, v2] at AC
  rw [v3, v4] at BC
  rw [v5, v6] at TC
  rw [m1, z1] at MC
  rw [m2, z2] at NC
  rw [List.length_cons] at t3
  obtain ⟨M1, hM1⟩ : ∃ q : Int, ((M.tree h (x :: t)).length : Int) = q := ⟨_, rfl⟩
  obtain ⟨M2, hM2⟩ : ∃ q : Int, ((M.tree h t).length : Int) = q := ⟨_, rfl⟩
  have q1 : M2 < M1 := by omega
  have q2 : M1 ≤ M2 + h + 1 := by omega
  have q3 : IntKind.i64.wrap (M2 + h) = M2 + h := by rw [IntKind.wrap_i64]; omega
  have q4 : IntKind.i64.wrap (M2 + h + 1) = M2 + h + 1 := by rw [IntKind.wrap_i64]; omega
  rw [hM1] at MC
  rw [hM2] at NC
  generalize M.inT h (x :: t) n = r1 at *
  generalize M.inT h (x :: t) a = r2 at *
  generalize M.inT h t n = r4 at *
  generalize M.abv a n = r3 at *
  clear hu hs hs2 hn ha v1 v2 v3 v4 v5 v6 t1 t2 t3 m1 m2 hM1 hM2 hl hv z1 z2 s1 s2
  have k3 : r3 = false ∨ r1 = false ∨ r2 = true := by revert k1; cases r1 <;> cases r2 <;> cases r3 <;> simp
  have k4 : r4 = false ∨ r1 = true := by revert k2; cases r1 <;> cases r4 <;> simp
  clear k1 k2
  have key : ∀ r1' r2' r3' r4', r1 = r1' → r2 = r2' → r3 = r3' → r4 = r4' → Calls Try.prog 8 #[.int .i64 h, .slice (some ⟨b, off, none⟩) (t.length + 1) cap, .int .u64 n, .int .u64 a] w fun e w' => e = .returned (.bool true) ∧ Below w.heap.size w w' := by
    intro r1' r2' r3' r4' g1 g2 g3 g4
    rw [g1] at AC k3 k4
    rw [g2] at BC k3
    rw [g3] at e2 k3
    rw [g4] at TC k4
    clear g1 g2 g3 g4
    rcases k3 with rfl | rfl | rfl
    · rcases k4 with rfl | rfl
      · skip
        have T1 := hidq trivial
        have T2 := hidq trivial
        have T3 := hidq trivial
        have T4 := hidq trivial
        have T5 := hidq trivial
        have T6 := hidq trivial
        go_enter Try.func8, Try.ntmps8
        go_wp2_with (first | (go_at_call 9; clear T1; refine (live9_any _).mono ?_; rintro e w1 ⟨rfl, hb1⟩; have U1 := (U0.below hb1); clear U0; have hB1 := below_trans hB0 hb1) | (go_at_call 10; clear T2; refine (AC.out _ _ U1).mono ?_; rintro e w2 ⟨rfl, hb2⟩; have U2 := (U1.below hb2); clear U1; have hB2 := below_trans hB1 hb2) | (go_at_call 10; clear T3; refine (BC.out _ _ U2).mono ?_; rintro e w3 ⟨rfl, hb3⟩; have U3 := (U2.below hb3); clear U2; have hB3 := below_trans hB2 hb3) | (go_at_call 22; refine (above_any h a n _ h2 h3 h0 h1).mono ?_; rintro e w' ⟨rfl, hw⟩; subst w') | (go_at_call 10; clear T4; refine (TC.out _ _ (us_tail U3 rfl)).mono ?_; rintro e w4 ⟨rfl, hb4⟩; have U4 := (U3.below hb4); clear U3; have hB4 := below_trans hB3 hb4) | (go_at_call 12; clear T5; refine (MC.out _ _ U4).mono ?_; rintro e w5 ⟨rfl, hb5⟩; have U5 := (U4.below hb5); clear U4; have hB5 := below_trans hB4 hb5) | (go_at_call 12; clear T6; refine (NC.out _ _ (us_tail U5 rfl)).mono ?_; rintro e w6 ⟨rfl, hb6⟩; have U6 := (U5.below hb6); clear U5; have hB6 := below_trans hB5 hb6))
        all_goals go_ret
        all_goals exact ⟨rfl, by first | exact hB6 | exact hB3⟩
      · cases r4'
        all_goals skip
        all_goals have T1 := hidq trivial
        all_goals have T2 := hidq trivial
        all_goals have T3 := hidq trivial
        all_goals have T4 := hidq trivial
        all_goals have T5 := hidq trivial
        all_goals have T6 := hidq trivial
        all_goals go_enter Try.func8, Try.ntmps8
        all_goals go_wp2_with (first | (go_at_call 9; clear T1; refine (live9_any _).mono ?_; rintro e w1 ⟨rfl, hb1⟩; have U1 := (U0.below hb1); clear U0; have hB1 := below_trans hB0 hb1) | (go_at_call 10; clear T2; refine (AC.out _ _ U1).mono ?_; rintro e w2 ⟨rfl, hb2⟩; have U2 := (U1.below hb2); clear U1; have hB2 := below_trans hB1 hb2) | (go_at_call 10; clear T3; refine (BC.out _ _ U2).mono ?_; rintro e w3 ⟨rfl, hb3⟩; have U3 := (U2.below hb3); clear U2; have hB3 := below_trans hB2 hb3) | (go_at_call 22; refine (above_any h a n _ h2 h3 h0 h1).mono ?_; rintro e w' ⟨rfl, hw⟩; subst w') | (go_at_call 10; clear T4; refine (TC.out _ _ (us_tail U3 rfl)).mono ?_; rintro e w4 ⟨rfl, hb4⟩; have U4 := (U3.below hb4); clear U3; have hB4 := below_trans hB3 hb4) | (go_at_call 12; clear T5; refine (MC.out _ _ U4).mono ?_; rintro e w5 ⟨rfl, hb5⟩; have U5 := (U4.below hb5); clear U4; have hB5 := below_trans hB4 hb5) | (go_at_call 12; clear T6; refine (NC.out _ _ (us_tail U5 rfl)).mono ?_; rintro e w6 ⟨rfl, hb6⟩; have U6 := (U5.below hb6); clear U5; have hB6 := below_trans hB5 hb6))
        all_goals go_ret
        all_goals exact ⟨rfl, by first | exact hB6 | exact hB3⟩
    · obtain rfl : r4' = false := by cases r4' <;> simp_all
      cases r3'
      all_goals skip
      all_goals have T1 := hidq trivial
      all_goals have T2 := hidq trivial
      all_goals have T3 := hidq trivial
      all_goals have T4 := hidq trivial
      all_goals have T5 := hidq trivial
      all_goals have T6 := hidq trivial
      all_goals go_enter Try.func8, Try.ntmps8
      all_goals go_wp2_with (first | (go_at_call 9; clear T1; refine (live9_any _).mono ?_; rintro e w1 ⟨rfl, hb1⟩; have U1 := (U0.below hb1); clear U0; have hB1 := below_trans hB0 hb1) | (go_at_call 10; clear T2; refine (AC.out _ _ U1).mono ?_; rintro e w2 ⟨rfl, hb2⟩; have U2 := (U1.below hb2); clear U1; have hB2 := below_trans hB1 hb2) | (go_at_call 10; clear T3; refine (BC.out _ _ U2).mono ?_; rintro e w3 ⟨rfl, hb3⟩; have U3 := (U2.below hb3); clear U2; have hB3 := below_trans hB2 hb3) | (go_at_call 22; refine (above_any h a n _ h2 h3 h0 h1).mono ?_; rintro e w' ⟨rfl, hw⟩; subst w') | (go_at_call 10; clear T4; refine (TC.out _ _ (us_tail U3 rfl)).mono ?_; rintro e w4 ⟨rfl, hb4⟩; have U4 := (U3.below hb4); clear U3; have hB4 := below_trans hB3 hb4) | (go_at_call 12; clear T5; refine (MC.out _ _ U4).mono ?_; rintro e w5 ⟨rfl, hb5⟩; have U5 := (U4.below hb5); clear U4; have hB5 := below_trans hB4 hb5) | (go_at_call 12; clear T6; refine (NC.out _ _ (us_tail U5 rfl)).mono ?_; rintro e w6 ⟨rfl, hb6⟩; have U6 := (U5.below hb6); clear U5; have hB6 := below_trans hB5 hb6))
      all_goals go_ret
      all_goals exact ⟨rfl, by first | exact hB6 | exact hB3⟩
    · rcases k4 with rfl | rfl
      · cases r1' <;> cases r3'
        all_goals skip
        all_goals have T1 := hidq trivial
        all_goals have T2 := hidq trivial
        all_goals have T3 := hidq trivial
        all_goals have T4 := hidq trivial
        all_goals have T5 := hidq trivial
        all_goals have T6 := hidq trivial
        all_goals go_enter Try.func8, Try.ntmps8
        all_goals go_wp2_with (first | (go_at_call 9; clear T1; refine (live9_any _).mono ?_; rintro e w1 ⟨rfl, hb1⟩; have U1 := (U0.below hb1); clear U0; have hB1 := below_trans hB0 hb1) | (go_at_call 10; clear T2; refine (AC.out _ _ U1).mono ?_; rintro e w2 ⟨rfl, hb2⟩; have U2 := (U1.below hb2); clear U1; have hB2 := below_trans hB1 hb2) | (go_at_call 10; clear T3; refine (BC.out _ _ U2).mono ?_; rintro e w3 ⟨rfl, hb3⟩; have U3 := (U2.below hb3); clear U2; have hB3 := below_trans hB2 hb3) | (go_at_call 22; refine (above_any h a n _ h2 h3 h0 h1).mono ?_; rintro e w' ⟨rfl, hw⟩; subst w') | (go_at_call 10; clear T4; refine (TC.out _ _ (us_tail U3 rfl)).mono ?_; rintro e w4 ⟨rfl, hb4⟩; have U4 := (U3.below hb4); clear U3; have hB4 := below_trans hB3 hb4) | (go_at_call 12; clear T5; refine (MC.out _ _ U4).mono ?_; rintro e w5 ⟨rfl, hb5⟩; have U5 := (U4.below hb5); clear U4; have hB5 := below_trans hB4 hb5) | (go_at_call 12; clear T6; refine (NC.out _ _ (us_tail U5 rfl)).mono ?_; rintro e w6 ⟨rfl, hb6⟩; have U6 := (U5.below hb6); clear U5; have hB6 := below_trans hB5 hb6))
        all_goals go_ret
        all_goals exact ⟨rfl, by first | exact hB6 | exact hB3⟩
      · cases r4' <;> cases r3'
        all_goals skip
        all_goals have T1 := hidq trivial
        all_goals have T2 := hidq trivial
        all_goals have T3 := hidq trivial
        all_goals have T4 := hidq trivial
        all_goals have T5 := hidq trivial
        all_goals have T6 := hidq trivial
        all_goals go_enter Try.func8, Try.ntmps8
        all_goals go_wp2_with (first | (go_at_call 9; clear T1; refine (live9_any _).mono ?_; rintro e w1 ⟨rfl, hb1⟩; have U1 := (U0.below hb1); clear U0; have hB1 := below_trans hB0 hb1) | (go_at_call 10; clear T2; refine (AC.out _ _ U1).mono ?_; rintro e w2 ⟨rfl, hb2⟩; have U2 := (U1.below hb2); clear U1; have hB2 := below_trans hB1 hb2) | (go_at_call 10; clear T3; refine (BC.out _ _ U2).mono ?_; rintro e w3 ⟨rfl, hb3⟩; have U3 := (U2.below hb3); clear U2; have hB3 := below_trans hB2 hb3) | (go_at_call 22; refine (above_any h a n _ h2 h3 h0 h1).mono ?_; rintro e w' ⟨rfl, hw⟩; subst w') | (go_at_call 10; clear T4; refine (TC.out _ _ (us_tail U3 rfl)).mono ?_; rintro e w4 ⟨rfl, hb4⟩; have U4 := (U3.below hb4); clear U3; have hB4 := below_trans hB3 hb4) | (go_at_call 12; clear T5; refine (MC.out _ _ U4).mono ?_; rintro e w5 ⟨rfl, hb5⟩; have U5 := (U4.below hb5); clear U4; have hB5 := below_trans hB4 hb5) | (go_at_call 12; clear T6; refine (NC.out _ _ (us_tail U5 rfl)).mono ?_; rintro e w6 ⟨rfl, hb6⟩; have U6 := (U5.below hb6); clear U5; have hB6 := below_trans hB5 hb6))
        all_goals go_ret
        all_goals exact ⟨rfl, by first | exact hB6 | exact hB3⟩
  exact key r1 r2 r3 r4 rfl rfl rfl rfl
theorem steinerAbove_walk (h : Int) (L : List Int) (v : Value) (n a : Int) (w : World) (_ : -9223372036854775808 ≤ h) (_ : h ≤ 9223372036854775807) (hu : Us w v L) (h0 : 0 ≤ n) (h1 : n ≤ 18446744073709551615) (h2 : 0 ≤ a) (h3 : a ≤ 18446744073709551615) :
    Calls Try.prog 8 #[.int .i64 h, v, .int .u64 n, .int .u64 a] w fun e w' => e = .returned (.bool true) ∧ Below w.heap.size w w' := by
  by_cases hl : L.length ≤ 30
  · by_cases hE : M.belE h L n = 0
    · by_cases hE2 : M.belE h L a = 0
      · obtain ⟨hs, hn⟩ := M.belE_iff.1 hE
        obtain ⟨_, ha⟩ := M.belE_iff.1 hE2
        cases L with
        | nil => exact steinerAbove_nil h v n a w hu h0 h1 h2 h3 hs hn ha
        | cons x t => exact steinerAbove_cons h x t v n a w hu h0 h1 h2 h3 hl hs hn ha
      · exact steinerAbove_no2 h L v n a w hu h0 h1 h2 h3 hl hE hE2
    · exact steinerAbove_no h L v n a w hu h0 h1 h2 h3 hl hE
  · exact steinerAbove_long h L v n a w hu hl
end Go.Proofs.Ythmiieiajfghnaa
