/-
  The law WholeMore returns true at every input: with one leaf more in the set the cover has all subsets that it had but that one in which the leaf was, and as many more as the tree is high at most. Conditions: the slice holds numbers, the numbers fit their kinds.
-/
import Derived.Test.YtedilnipfjggfaaZI3
import Derived.Test.YtedilnipfjggfaaZI4
import Derived.Test.YtedilnipfjggfaaZTR
namespace Go.Proofs.Ytedilnipfjggfaa
open Go.RowKit
set_option maxRecDepth 100000 in
set_option maxHeartbeats 4000000 in
theorem wholeMore_long (h : Int) (L : List Int) (v : Value) (i : Int) (w : World) (hu : Us w v L) (hl : ¬ L.length ≤ 30) :
    Calls Try.prog 5 #[.int .i64 h, v, .int .u64 i] w fun e w' => e = .returned (.bool true) ∧ Below w.heap.size w w' := by
  obtain ⟨ao, cap, rfl, -⟩ := us_view hu
  have hB0 := Below.refl w.heap.size w
  have U0 := hu
  have hli : (30 : Int) < L.length := by omega
  clear hl hu
  have T1 := hidq trivial
  go_enter Try.func5, Try.ntmps5
  go_wp2_with (first | (go_at_call 8; clear T1; refine (live10_any _).mono ?_; rintro e w1 ⟨rfl, hb1⟩; have U1 := (U0.below hb1); clear U0; have hB1 := below_trans hB0 hb1))
  go_ret
  exact ⟨rfl, hB1⟩
set_option maxRecDepth 100000 in
set_option maxHeartbeats 4000000 in
theorem wholeMore_no (h : Int) (L : List Int) (v : Value) (i : Int) (w : World) (hu : Us w v L) (h0 : 0 ≤ i) (h1 : i ≤ 18446744073709551615) (hl : L.length ≤ 30) (hE : ¬ M.withE h L i = 0) :
    Calls Try.prog 5 #[.int .i64 h, v, .int .u64 i] w fun e w' => e = .returned (.bool true) ∧ Below w.heap.size w w' := by
  have CA := hidq (fun W v (u : Us W v L) => cover_any h L v W u)
  have WC := hidq (fun W v (u : Us W v L) => with_any h L v i W u h0 h1)
  have WF := hidq (show ∀ x ∈ M.withV h L i, 0 ≤ x ∧ x ≤ 18446744073709551615 from fits_big (M.withV_fits h0).1)
  obtain ⟨ao, cap, rfl, -⟩ := us_view hu
  have hB0 := Below.refl w.heap.size w
  have U0 := hu
  have hli : ¬ (30 : Int) < L.length := by omega
  have T1 := hidq trivial
  have T2 := hidq trivial
  have hEb : (M.withE h L i == 0) = false := by rw [beq_eq_false_iff_ne]; exact hE
  generalize M.withE h L i = E at *
  generalize M.withV h L i = M' at *
  generalize M.cvL h L = C at *
  clear hl hu
  by_cases hs : M.setE h L = 0
  · rw [hs] at CA
    clear hs
    go_enter Try.func5, Try.ntmps5
    go_wp2_with (first | (go_at_call 8; clear T1; refine (live10_any _).mono ?_; rintro e w1 ⟨rfl, hb1⟩; have U1 := (U0.below hb1); clear U0; have hB1 := below_trans hB0 hb1) | (go_at_call 9; clear T2; refine (CA.out _ _ U1).mono ?_; rintro e w2 ⟨x, rfl, X2, hb2⟩; have U2 := (U1.below hb2); clear U1; have hB2 := below_trans hB1 hb2; obtain ⟨aX2, cX2, rfl, kX2, -, vX2⟩ := X2.form) | (go_at_call 20; refine (WC.out _ _ U2).mono ?_; rintro e w3 ⟨v3, rfl, ho3, hb3⟩; have X3 := X2.below hb3; clear X2; have hB3 := below_trans hB2 hb3; have M3 := Us.of_own ho3 WF.out; obtain ⟨aM3, cM3, rfl, -⟩ := us_view M3; clear ho3 U2))
    go_ret
    exact ⟨rfl, hB3⟩
  · rw [M.setE_one hs] at CA
    clear hs
    go_enter Try.func5, Try.ntmps5
    go_wp2_with (first | (go_at_call 8; clear T1; refine (live10_any _).mono ?_; rintro e w1 ⟨rfl, hb1⟩; have U1 := (U0.below hb1); clear U0; have hB1 := below_trans hB0 hb1) | (go_at_call 9; clear T2; refine (CA.out _ _ U1).mono ?_; rintro e w2 ⟨x, rfl, X2, hb2⟩; have U2 := (U1.below hb2); clear U1; have hB2 := below_trans hB1 hb2; obtain ⟨aX2, cX2, rfl, kX2, -, vX2⟩ := X2.form) | (go_at_call 20; refine (WC.out _ _ U2).mono ?_; rintro e w3 ⟨v3, rfl, ho3, hb3⟩; have X3 := X2.below hb3; clear X2; have hB3 := below_trans hB2 hb3; have M3 := Us.of_own ho3 WF.out; obtain ⟨aM3, cM3, rfl, -⟩ := us_view M3; clear ho3 U2))
    go_ret
    exact ⟨rfl, hB3⟩
theorem M.any_take (Y : List Int) (y : Int) (q : Nat) (hq : q < Y.length) : (Y.take (q + 1)).any (fun z => decide (y = z)) = ((Y.take q).any (fun z => decide (y = z)) || decide (y = Y[q]?.getD 0)) := by
  rw [take_getD q hq, List.any_append]; simp
theorem M.any_mem (Y : List Int) (y : Int) : Y.any (fun z => decide (y = z)) = decide (y ∈ Y) := by
  induction Y with
  | nil => simp
  | cons x t ih => rw [List.any_cons, ih]; by_cases h : y = x <;> simp [h]
set_option maxRecDepth 100000 in
set_option maxHeartbeats 8000000 in
theorem wholeMore_yes (h : Int) (L : List Int) (v : Value) (i : Int) (w : World) (hu : Us w v L) (h0 : 0 ≤ i) (h1 : i ≤ 18446744073709551615) (hl : L.length ≤ 30) (hE : M.withE h L i = 0) :
    Calls Try.prog 5 #[.int .i64 h, v, .int .u64 i] w fun e w' => e = .returned (.bool true) ∧ Below w.heap.size w w' := by
  obtain ⟨q1, q2, q3, s1, s2, q4, q5, q6, q7⟩ := M.more_facts h0 hE (by omega)
  have CA := hidq (fun W v (u : Us W v L) => cover_any h L v W u)
  have CB := hidq (fun W v (u : Us W v (M.withL L i)) => cover_any h (M.withL L i) v W u)
  have WC := hidq (fun W v (u : Us W v L) => with_any h L v i W u h0 h1)
  have WF := hidq (show ∀ x ∈ M.withV h L i, 0 ≤ x ∧ x ≤ 18446744073709551615 from fits_big (M.withV_fits h0).1)
  rw [M.withV_yes hE] at WC WF
  rw [hE] at WC
  rw [q1] at CA
  rw [q2] at CB
  unfold M.cvL at CA CB
  have HLX := hidq (M.thV_len (h := h) (L := L))
  have HLY := hidq (M.thV_len (h := h) (L := M.withL L i))
  generalize M.thV h L = X at *
  generalize M.thV h (M.withL L i) = Y at *
  generalize M.withL L i = M' at *
  have HA := hidq (M.bare_at X)
  have HAl := hidq (M.bare_length X)
  have HB := hidq (M.bare_at Y)
  have HBl := hidq (M.bare_length Y)
  have HP := hidq (fun y (hy : y ∈ X) => q4 y hy)
  have HH := hidq (fun (k : Nat) (hk : k < X.length) => M.Sm_take (f := M.hit h i) hk)
  have HH2 := hidq (fun (k : Nat) => show 0 ≤ M.Sm (M.hit h i) (X.take k) ∧ M.Sm (M.hit h i) (X.take k) ≤ 80000 by
    have := M.hit_01 h i (X.take k)
    have := HLX.out
    rw [List.length_take] at *; omega)
  have HHb := hidq (fun y => M.hit_bare (h := h) (i := i) (y := y))
  have HHn := hidq (show M.Sm (M.hit h i) (X.take X.length) = 1 by rw [List.take_length]; exact q5)
  have HY := hidq (fun y q hq => M.any_take Y y q hq)
  have HYn := hidq (fun y => show (Y.take Y.length).any (fun z => decide (y = z)) = decide (y ∈ Y) by rw [List.take_length]; exact M.any_mem Y y)
  obtain ⟨ao, cap, rfl, -⟩ := us_view hu
  have hB0 := Below.refl w.heap.size w
  have U0 := hu
  have hli : ¬ (30 : Int) < L.length := by omega
  have T1 := hidq trivial
  have T2 := hidq trivial
  have HQ3 := hidq q3
  clear hu hl hE q1 q2 q3 q4 q5
  generalize M.bare X = C at *
  generalize M.bare Y = D at *
  go_enter Try.func5, Try.ntmps5
  go_wp2_with (first | (go_at_call 8; clear T1; refine (live10_any _).mono ?_; rintro e w1 ⟨rfl, hb1⟩; have U1 := (U0.below hb1); clear U0; have hB1 := below_trans hB0 hb1) | (go_at_call 9; clear T2; refine (CA.out _ _ U1).mono ?_; rintro e w2 ⟨x, rfl, X2, hb2⟩; have U2 := (U1.below hb2); clear U1; have hB2 := below_trans hB1 hb2; obtain ⟨aX2, cX2, rfl, kX2, -, vX2⟩ := X2.form) | (go_at_call 20; refine (WC.out _ _ U2).mono ?_; rintro e w3 ⟨v3, rfl, ho3, hb3⟩; have X3 := X2.below hb3; clear X2; have hB3 := below_trans hB2 hb3; have M3 := Us.of_own ho3 WF.out; obtain ⟨aM3, cM3, rfl, -⟩ := us_view M3; clear ho3 U2) | (go_at_call 9; refine (CB.out _ _ M3).mono ?_; rintro e w4 ⟨y, rfl, Y4, hb4⟩; have X4 := (X3.below hb4); clear X3 M3; have hB4 := below_trans hB3 hb4; obtain ⟨aY4, cY4, rfl, kY4, -, vY4⟩ := Y4.form))
  generalize hN : C.length = N at *
  generalize hK : D.length = K at *
  have hN8 : N ≤ 80000 := by have := HLX.out; have := HAl.out; omega
  have hK8 : K ≤ 80000 := by have := HLY.out; have := HBl.out; omega
  have q8 : (N : Int) - 1 ≤ K := by have := HAl.out; have := HBl.out; omega
  have q9 : (K : Int) ≤ N - 1 + h := by have := HAl.out; have := HBl.out; omega
  clear q6 q7 hN hK
  have HN8 := hidq hN8
  have HK8 := hidq hK8
  go_loopw [57, 14] (fun a b wr => ∃ (j : Nat), j ≤ N ∧ a = .int .i64 j ∧ b = .int .i64 (M.Sm (M.hit h i) (X.take j)) ∧ Below w4.heap.size w4 wr) (fun a _ _ => N - (intOf a).toNat)
  case atStart => exact ⟨0, by omega, rfl, rfl, Below.refl _ _⟩
  case round =>
    obtain ⟨j, hj, rfl, rfl, hb⟩ := hrel
    have BX := hidq hb
    by_cases hjn : j < N
    · have hji : (j : Int) < N := by omega
      obtain ⟨bF, oF, rfl⟩ := vX2 (by omega)
      have hjl : j < X.length := by rw [← HAl.out]; exact hjn
      obtain ⟨x1, x2⟩ := Ss.at (X4.below hb) (HA.out j hjl)
      dsimp only at x1 x2
      have hm : X[j]?.getD 0 ∈ X := by rw [List.getElem?_eq_getElem hjl]; exact List.getElem_mem hjl
      obtain ⟨hyk, hym⟩ := HP.out _ hm
      have p1 := HH.out j hjl
      have p2 := HH2.out j
      generalize X[j]?.getD 0 = y at *
      have p3 := HHb.out y
      have hy1 := M.ok_lt hyk
      have hy0 : 0 ≤ y := by have := (M.ok_of hyk).2.2.1; omega
      obtain ⟨eH, eV⟩ := M.has_bare (i := i) hyk HQ3.out
      generalize M.inS (M.lvs h y 0) i = r at *
      have HSC := hidq (fun W => has8_any h y 0 i W hy0 (by omega) (by omega) (by omega) h0 h1)
      rw [eH, eV] at HSC
      obtain ⟨A0, hA0⟩ : ∃ A0, M.Sm (M.hit h i) (X.take j) = A0 := ⟨_, rfl⟩
      obtain ⟨A1, hA1⟩ : ∃ A1, M.Sm (M.hit h i) (X.take (j + 1)) = A1 := ⟨_, rfl⟩
      rw [hA0] at p1 p2 ⊢
      rw [hA1, p3] at p1
      have HA1 := hidq hA1
      have YW := hidq (Y4.below hb)
      have hy2 : y ≤ 18446744073709551615 := by omega
      have SX := hidq (Bi.new wr 34 y 0)
      have SB := hidq (below_one (o := (.cells #[.int .u64 y, .int .u64 0] 34)) BX.out)
      clear hm hyk p3 hA0 hA1 hb hjl
      go_wp2
      go_loopw [63, 17] (fun a b wq => ∃ (q : Nat), q ≤ K ∧ a = .int .i64 q ∧ b = .bool ((Y.take q).any fun z => decide (y = z)) ∧ Below (wr.alloc (.cells #[.int .u64 y, .int .u64 0] 34)).heap.size (wr.alloc (.cells #[.int .u64 y, .int .u64 0] 34)) wq) (fun a _ _ => K - (intOf a).toNat)
      case atStart => exact ⟨0, by omega, rfl, rfl, Below.refl _ _⟩
      case round =>
        obtain ⟨q, hq, rfl, rfl, hbq⟩ := hrel
        have BQ := hidq (below_trans SB.out hbq)
        have S0 := SX.out.below hbq
        obtain ⟨S0a, S0b⟩ := S0.facts
        obtain ⟨r0, hr0⟩ : ∃ r0, ((Y.take q).any fun z => decide (y = z)) = r0 := ⟨_, rfl⟩
        rw [hr0]
        by_cases hqn : q < K
        · have hqi : (q : Int) < K := by omega
          obtain ⟨bG, oG, rfl⟩ := vY4 (by omega)
          have hql : q < Y.length := by rw [← HBl.out]; exact hqn
          obtain ⟨y1, y2⟩ := Ss.at ((YW.out.below (below_one (Below.refl _ _))).below hbq) (HB.out q hql)
          dsimp only at y1 y2
          have p5 := HY.out y q hql
          rw [hr0] at p5
          generalize Y[q]?.getD 0 = z at *
          obtain ⟨r1, hr1⟩ : ∃ r1, decide (y = z) = r1 := ⟨_, rfl⟩
          rw [hr1] at p5
          have hq2 : ∀ W, (Op.equalIn 10000 34 (.agg #[.int .u64 y, .int .u64 0]) (.agg #[.int .u64 z, .int .u64 0])).run Try.prog W = .ok r1 W := fun W => by
            rw [eqSub y 0 z 0 W, ← hr1]; simp
          have S1 := S0.alloc (.cells #[.int .u64 z, .int .u64 0] 34)
          obtain ⟨S1a, S1b⟩ := S1.facts
          have Z0 := Bi.new wr 34 z 0
          obtain ⟨Z0a, Z0b⟩ := Z0.facts
          have HP5 := hidq p5
          have HR0 := hidq hr0
          have HBQ := hidq hbq
          clear p5 hr0 hr1 hbq hql
          cases r0 with
          | true =>
            go_wp2
            go_roundw
            case rel => exact ⟨q + 1, by omega, by go_num, by rw [HP5.out]; rfl, below_one HBQ.out⟩
            case measure => simp [intOf]; omega
          | false =>
            go_wp2
            go_roundw
            case rel => exact ⟨q + 1, by omega, by go_num, by rw [HP5.out]; rfl, below_one HBQ.out⟩
            case measure => simp [intOf]; omega
        · obtain rfl : q = K := by omega
          have hqi : ¬ (q : Int) < q := by omega
          have p6 : r0 = !r := by
            rw [← hr0, ← hym]
            have := HYn.out y
            rw [← HBl.out] at this
            exact this
          clear hr0 hbq hqn
          subst p6
          cases r with
          | true =>
            go_wp2_with (first | (go_at_call 15; refine (HSC.out _).mono ?_; rintro e w6 ⟨rfl, hb6⟩; have B6 := hidq (below_trans BQ.out hb6); clear hb6))
            go_roundw
            case rel => exact ⟨j + 1, by omega, by go_num, by rw [HA1.out, p1]; rfl, B6.out⟩
            case measure => simp [intOf]; omega
          | false =>
            go_wp2_with (first | (go_at_call 15; refine (HSC.out _).mono ?_; rintro e w6 ⟨rfl, hb6⟩; have B6 := hidq (below_trans BQ.out hb6); clear hb6))
            go_roundw
            case rel => exact ⟨j + 1, by omega, by go_num, by rw [HA1.out, p1]; simp, B6.out⟩
            case measure => simp [intOf]; omega
    · obtain rfl : j = N := by omega
      have hji : ¬ (j : Int) < j := by omega
      have e1 : M.Sm (M.hit h i) (X.take j) = 1 := by rw [← HHn.out, HAl.out]
      rw [e1]
      have hw1 : IntKind.i64.wrap ((j : Int) - 1) = (j : Int) - 1 := by rw [IntKind.wrap_i64]; omega
      have hw2 : IntKind.i64.wrap ((j : Int) - 1 + h) = (j : Int) - 1 + h := by rw [IntKind.wrap_i64]; omega
      clear hb e1
      go_wp2
      go_ret
      exact ⟨rfl, below_trans hB4 BX.out⟩
theorem wholeMore_walk (h : Int) (L : List Int) (v : Value) (i : Int) (w : World) (_ : -9223372036854775808 ≤ h) (_ : h ≤ 9223372036854775807) (hu : Us w v L) (h0 : 0 ≤ i) (h1 : i ≤ 18446744073709551615) :
    Calls Try.prog 5 #[.int .i64 h, v, .int .u64 i] w fun e w' => e = .returned (.bool true) ∧ Below w.heap.size w w' := by
  by_cases hl : L.length ≤ 30
  · by_cases hE : M.withE h L i = 0
    · exact wholeMore_yes h L v i w hu h0 h1 hl hE
    · exact wholeMore_no h L v i w hu h0 h1 hl hE
  · exact wholeMore_long h L v i w hu hl
end Go.Proofs.Ytedilnipfjggfaa
