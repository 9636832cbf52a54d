/-
  The law StoreIn returns true at every input: a leaf is in each of its pairs, which may be of the scheme; of those without a J just those are its pairs in which it is. Conditions: the numbers fit their kinds.
-/
import Derived.Test.YthmiekinjfaflaaZSQ2
import Derived.Test.YthmiekinjfaflaaZSt2
import Derived.Test.YthmiekinjfaflaaZXD0
namespace Go.Proofs.Ythmiekinjfaflaa
open Go.RowKit
set_option maxRecDepth 100000 in
set_option maxHeartbeats 4000000 in
theorem storeIn_no (h k i s1 s2 : Int) (w : World) (h0 : 0 ≤ i) (h1 : i ≤ 18446744073709551615) (hE : ¬ M.prsE h k i = 0) :
    Calls Try.prog 5 #[.int .i64 h, .int .i64 k, .int .u64 i, .agg #[.int .u64 s1, .int .u64 s2]] w fun e w' => e = .returned (.bool true) ∧ Below w.heap.size w w' := by
  have SP := hidq (fun W => spairs_any h k i W h0 h1)
  generalize M.prsL h k i = C at *
  generalize M.prsE h k i = E at *
  have hEb : (E == 0) = false := by rw [beq_eq_false_iff_ne]; exact hE
  have X0 := hidq (Bi.new w 35 s1 s2)
  have hB0 : Below w.heap.size w (w.alloc (.cells #[.int .u64 s1, .int .u64 s2] 35)) := below_one (Below.refl _ _)
  go_enter Try.func5, Try.ntmps5
  go_wp2_with (first | (go_at_call 8; refine (live14_any _).mono ?_; rintro e w1 ⟨rfl, hb1⟩; have X1 := X0.out.below hb1; have hB1 := below_trans hB0 hb1) | (go_at_call 9; refine (SP.out _).mono ?_; rintro e w2 ⟨x, rfl, A2, hb2⟩; have X2 := hidq (X1.below hb2); have hB2 := hidq (below_trans hB1 hb2); obtain ⟨aA, cA, rfl, kA, kM, vA⟩ := A2.form; have AA := hidq A2; clear A2 hb2 X1 hB1 hb1))
  go_ret
  exact ⟨rfl, hB2.out⟩
set_option maxRecDepth 100000 in
set_option maxHeartbeats 8000000 in
theorem storeIn_yes (h k i s1 s2 : Int) (w : World) (h0 : 0 ≤ i) (h1 : i ≤ 18446744073709551615) (g1 : 0 ≤ s1) (g2 : s1 ≤ 18446744073709551615) (g3 : 0 ≤ s2) (g4 : s2 ≤ 18446744073709551615) (hE : M.prsE h k i = 0) :
    Calls Try.prog 5 #[.int .i64 h, .int .i64 k, .int .u64 i, .agg #[.int .u64 s1, .int .u64 s2]] w fun e w' => e = .returned (.bool true) ∧ Below w.heap.size w w' := by
  have SP := hidq (fun W => spairs_any h k i W h0 h1)
  rw [hE] at SP
  have HIn := hidq (fun (x : Int × Int) (hx : x ∈ M.prsL h k i) => M.prs_in h0 hE hx)
  have HSb := hidq (fun (x : Int × Int) (hx : x ∈ M.prsL h k i) => M.sub_fit14 (M.prs_sub h0 hE hx))
  have HZ := hidq (fun (hmy : M.myV h k s1 0 = true) => M.prs_zero (I := s1) h0 hE hmy)
  have HC1 := hidq (fun y d W a b c e => has8_any h y d i W a b c e h0 h1)
  have HF := hidq (fun W => has8_any h s1 s2 i W g1 g2 g3 g4 h0 h1)
  have MC := hidq (fun W => lmay_any h k s1 s2 W g1 g2 g3 g4)
  generalize M.prsL h k i = C at *
  obtain ⟨TH, hTH⟩ : ∃ TH : Nat → Bool, ∀ j, TH j = (C.take j).any (fun x => decide (x = (s1, s2))) := ⟨_, fun _ => rfl⟩
  have HT0 := hidq (show TH 0 = false by rw [hTH]; rfl)
  have HTk := hidq (fun j x (hk : C[j]? = some x) => show TH (j + 1) = (TH j || decide (x = (s1, s2))) by rw [hTH, hTH, List.take_add_one, hk, List.any_append]; simp)
  have HTN := hidq (show (TH C.length = true → (s1, s2) ∈ C) ∧ (TH C.length = false → ¬ (s1, s2) ∈ C) by
    rw [hTH, List.take_length]
    constructor
    · intro ht
      obtain ⟨x, hx, he⟩ := List.any_eq_true.1 ht
      rw [← of_decide_eq_true he]; exact hx
    · intro hf hm
      rw [List.any_eq_false] at hf
      exact hf _ hm (by simp))
  have X0 := hidq (Bi.new w 35 s1 s2)
  have hB0 : Below w.heap.size w (w.alloc (.cells #[.int .u64 s1, .int .u64 s2] 35)) := below_one (Below.refl _ _)
  clear hTH hE
  go_enter Try.func5, Try.ntmps5
  go_wp2_with (first | (go_at_call 8; refine (live14_any _).mono ?_; rintro e w1 ⟨rfl, hb1⟩; have X1 := X0.out.below hb1; have hB1 := below_trans hB0 hb1) | (go_at_call 9; refine (SP.out _).mono ?_; rintro e w2 ⟨x, rfl, A2, hb2⟩; have X2 := hidq (X1.below hb2); have hB2 := hidq (below_trans hB1 hb2); obtain ⟨aA, cA, rfl, kA, kM, vA⟩ := A2.form; have AA := hidq A2; clear A2 hb2 X1 hB1 hb1))
  have kA' : C.length ≤ maxLen := by omega
  unfold maxLen at kA'
  have HkA := hidq kA'
  clear kA' kM
  generalize hN : C.length = N at *
  have HN := hidq hN
  clear hN
  go_loopw [34, 12] (fun a b wr => ∃ (j : Nat), j ≤ N ∧ a = .int .i64 j ∧ b = .bool (TH j) ∧ Below w2.heap.size w2 wr) (fun a _ _ => N - (intOf a).toNat)
  case atStart => exact ⟨0, by omega, rfl, by rw [HT0.out], Below.refl _ _⟩
  case round =>
    obtain ⟨j, hj, rfl, rfl, hb⟩ := hrel
    obtain ⟨wz, hwz⟩ : ∃ wz, wz = wr := ⟨_, rfl⟩
    subst hwz
    have BX := hidq hb
    have hN8 := HkA.out
    by_cases hjn : j < N
    · have hji : (j : Int) < N := by omega
      obtain ⟨bF, oF, rfl⟩ := vA (by omega)
      obtain ⟨s, hsj⟩ : ∃ s, C[j]? = some s := ⟨_, List.getElem?_eq_getElem (by rw [HN.out]; exact hjn)⟩
      obtain ⟨x1, x2⟩ := Ss.at (AA.out.below hb) hsj
      have hm := List.mem_of_getElem? hsj
      obtain ⟨b1, b2, b3, b4⟩ := HSb.out s hm
      obtain ⟨i1, i2, -, -⟩ := HIn.out s hm
      have hak := HTk.out j s hsj
      obtain ⟨y, d⟩ := s
      dsimp only at x1 x2 b1 b2 b3 b4 i1 i2 hak
      have HC := hidq (fun W => HC1.out y d W b1 b2 b3 b4)
      rw [i1, i2] at HC
      obtain ⟨r, hr⟩ : ∃ r, decide (((y, d) : Int × Int) = (s1, s2)) = r := ⟨_, rfl⟩
      have hq := fun W => eqSub y d s1 s2 W
      rw [hr] at hq hak
      have SX := hidq (Bi.new wz 35 y d)
      obtain ⟨SXa, SXb⟩ := SX.out.facts
      obtain ⟨A0, hA0⟩ : ∃ A0, TH j = A0 := ⟨_, rfl⟩
      rw [hA0] at hak ⊢
      have HAk := hidq hak
      clear hr hak hA0 hsj hm b1 b2 b3 b4 i1 i2 hb
      cases A0 with
      | true =>
        go_wp2_with (first | (go_at_call 16; refine (HC.out _).mono ?_; rintro e w5 ⟨rfl, hb5⟩; have Z5 := SX.out.below hb5; obtain ⟨z5a, z5b⟩ := Z5.facts; have X5 := ((X2.out.below BX.out).alloc (.cells #[.int .u64 y, .int .u64 d] 35)).below hb5; obtain ⟨x5a, x5b⟩ := X5.facts; have B5 := hidq (below_trans (below_one (o := (.cells #[.int .u64 y, .int .u64 d] 35)) BX.out) hb5); clear hb5 Z5 X5))
        go_roundw
        case rel => exact ⟨j + 1, by omega, by go_num, by rw [HAk.out]; rfl, B5.out⟩
        case measure => simp [intOf]; omega
      | false =>
        go_wp2_with (first | (go_at_call 16; refine (HC.out _).mono ?_; rintro e w5 ⟨rfl, hb5⟩; have Z5 := SX.out.below hb5; obtain ⟨z5a, z5b⟩ := Z5.facts; have X5 := ((X2.out.below BX.out).alloc (.cells #[.int .u64 y, .int .u64 d] 35)).below hb5; obtain ⟨x5a, x5b⟩ := X5.facts; have B5 := hidq (below_trans (below_one (o := (.cells #[.int .u64 y, .int .u64 d] 35)) BX.out) hb5); clear hb5 Z5 X5))
        go_roundw
        case rel => exact ⟨j + 1, by omega, by go_num, by rw [HAk.out]; rfl, B5.out⟩
        case measure => simp [intOf]; omega
    · obtain rfl : j = N := by omega
      have hji : ¬ (j : Int) < j := by omega
      obtain ⟨AN, hAN⟩ : ∃ AN, TH j = AN := ⟨_, rfl⟩
      obtain ⟨t1, t2⟩ := HTN.out
      rw [hAN] at t1 t2 ⊢
      have x9 := (X2.out.below hb).facts
      obtain ⟨x9a, x9b⟩ := x9
      obtain ⟨sE, hsE⟩ : ∃ sE, M.shE h s1 s2 i = sE := ⟨_, rfl⟩
      obtain ⟨sV, hsV⟩ : ∃ sV, M.shV h s1 s2 i = sV := ⟨_, rfl⟩
      obtain ⟨mE, hmE⟩ : ∃ mE, M.myE h k s1 s2 = mE := ⟨_, rfl⟩
      obtain ⟨mV, hmV⟩ : ∃ mV, M.myV h k s1 s2 = mV := ⟨_, rfl⟩
      rw [hsE, hsV] at HF
      rw [hmE, hmV] at MC
      clear hAN hb
      cases AN with
      | true =>
        obtain ⟨p1, p2, p3, p4⟩ := HIn.out _ (t1 rfl)
        dsimp only at p1 p2 p3 p4
        rw [hsE] at p1
        rw [hsV] at p2
        rw [hmE] at p3
        rw [hmV] at p4
        subst p1 p2 p3 p4
        clear t1 t2 hsE hsV hmE hmV
        by_cases hJ : s2 = 0
        · subst hJ
          go_wp2_with (first | (go_at_call 16; refine (HF.out _).mono ?_; rintro e w6 ⟨rfl, hb6⟩; have X6 := hidq ((X2.out.below BX.out).below hb6); obtain ⟨x6a, x6b⟩ := X6.out.facts; have B6 := hidq (below_trans BX.out hb6); clear hb6) | (go_at_call 15; refine (MC.out _).mono ?_; rintro e w7 ⟨rfl, hb7⟩; have X7 := X6.out.below hb7; obtain ⟨x7a, x7b⟩ := X7.facts; have B7 := hidq (below_trans B6.out hb7); clear hb7 X7))
          go_ret
          exact ⟨rfl, below_trans hB2.out B7.out⟩
        · have hJb : (s2 == 0) = false := by rw [beq_eq_false_iff_ne]; exact hJ
          go_wp2_with (first | (go_at_call 16; refine (HF.out _).mono ?_; rintro e w6 ⟨rfl, hb6⟩; have X6 := hidq ((X2.out.below BX.out).below hb6); obtain ⟨x6a, x6b⟩ := X6.out.facts; have B6 := hidq (below_trans BX.out hb6); clear hb6) | (go_at_call 15; refine (MC.out _).mono ?_; rintro e w7 ⟨rfl, hb7⟩; have X7 := X6.out.below hb7; obtain ⟨x7a, x7b⟩ := X7.facts; have B7 := hidq (below_trans B6.out hb7); clear hb7 X7))
          go_ret
          exact ⟨rfl, below_trans hB2.out B7.out⟩
      | false =>
        have t3 := t2 rfl
        by_cases hs0 : sE = 0
        · subst hs0
          by_cases hm0 : mE = 0
          · subst hm0
            cases mV with
            | false =>
              clear t1 t2 hsE hsV hmE hmV
              go_wp2_with (first | (go_at_call 16; refine (HF.out _).mono ?_; rintro e w6 ⟨rfl, hb6⟩; have X6 := hidq ((X2.out.below BX.out).below hb6); obtain ⟨x6a, x6b⟩ := X6.out.facts; have B6 := hidq (below_trans BX.out hb6); clear hb6) | (go_at_call 15; refine (MC.out _).mono ?_; rintro e w7 ⟨rfl, hb7⟩; have X7 := X6.out.below hb7; obtain ⟨x7a, x7b⟩ := X7.facts; have B7 := hidq (below_trans B6.out hb7); clear hb7 X7))
              go_ret
              exact ⟨rfl, below_trans hB2.out B7.out⟩
            | true =>
              by_cases hJ : s2 = 0
              · subst hJ
                have hv : sV = false := by
                  rw [Bool.eq_false_iff]
                  intro hv
                  exact t3 ((HZ.out hmV).2 (by rw [hsV]; exact hv))
                subst hv
                clear t1 t2 t3 hsE hsV hmE hmV
                go_wp2_with (first | (go_at_call 16; refine (HF.out _).mono ?_; rintro e w6 ⟨rfl, hb6⟩; have X6 := hidq ((X2.out.below BX.out).below hb6); obtain ⟨x6a, x6b⟩ := X6.out.facts; have B6 := hidq (below_trans BX.out hb6); clear hb6) | (go_at_call 15; refine (MC.out _).mono ?_; rintro e w7 ⟨rfl, hb7⟩; have X7 := X6.out.below hb7; obtain ⟨x7a, x7b⟩ := X7.facts; have B7 := hidq (below_trans B6.out hb7); clear hb7 X7))
                go_ret
                exact ⟨rfl, below_trans hB2.out B7.out⟩
              · have hJb : (s2 == 0) = false := by rw [beq_eq_false_iff_ne]; exact hJ
                clear t1 t2 hsE hsV hmE hmV
                go_wp2_with (first | (go_at_call 16; refine (HF.out _).mono ?_; rintro e w6 ⟨rfl, hb6⟩; have X6 := hidq ((X2.out.below BX.out).below hb6); obtain ⟨x6a, x6b⟩ := X6.out.facts; have B6 := hidq (below_trans BX.out hb6); clear hb6) | (go_at_call 15; refine (MC.out _).mono ?_; rintro e w7 ⟨rfl, hb7⟩; have X7 := X6.out.below hb7; obtain ⟨x7a, x7b⟩ := X7.facts; have B7 := hidq (below_trans B6.out hb7); clear hb7 X7))
                go_ret
                exact ⟨rfl, below_trans hB2.out B7.out⟩
          · have hmb : (mE == 0) = false := by rw [beq_eq_false_iff_ne]; exact hm0
            clear t1 t2 hsE hsV hmE hmV
            go_wp2_with (first | (go_at_call 16; refine (HF.out _).mono ?_; rintro e w6 ⟨rfl, hb6⟩; have X6 := hidq ((X2.out.below BX.out).below hb6); obtain ⟨x6a, x6b⟩ := X6.out.facts; have B6 := hidq (below_trans BX.out hb6); clear hb6) | (go_at_call 15; refine (MC.out _).mono ?_; rintro e w7 ⟨rfl, hb7⟩; have X7 := X6.out.below hb7; obtain ⟨x7a, x7b⟩ := X7.facts; have B7 := hidq (below_trans B6.out hb7); clear hb7 X7))
            go_ret
            exact ⟨rfl, below_trans hB2.out B7.out⟩
        · have hsb : (sE == 0) = false := by rw [beq_eq_false_iff_ne]; exact hs0
          clear t1 t2 hsE hsV hmE hmV
          go_wp2_with (first | (go_at_call 16; refine (HF.out _).mono ?_; rintro e w6 ⟨rfl, hb6⟩; have X6 := hidq ((X2.out.below BX.out).below hb6); obtain ⟨x6a, x6b⟩ := X6.out.facts; have B6 := hidq (below_trans BX.out hb6); clear hb6) | (go_at_call 15; refine (MC.out _).mono ?_; rintro e w7 ⟨rfl, hb7⟩; have X7 := X6.out.below hb7; obtain ⟨x7a, x7b⟩ := X7.facts; have B7 := hidq (below_trans B6.out hb7); clear hb7 X7))
          go_ret
          exact ⟨rfl, below_trans hB2.out B6.out⟩
set_option maxRecDepth 100000 in
theorem storeIn_walkq (h k i : Int) (s1 s2 : Int) (w : World) (_ : -9223372036854775808 ≤ h) (_ : h ≤ 9223372036854775807) (_ : -9223372036854775808 ≤ k) (_ : k ≤ 9223372036854775807) (h0 : 0 ≤ i) (h1 : i ≤ 18446744073709551615) (g1 : 0 ≤ s1) (g2 : s1 ≤ 18446744073709551615) (g3 : 0 ≤ s2) (g4 : s2 ≤ 18446744073709551615) :
    Calls Try.prog 5 #[.int .i64 h, .int .i64 k, .int .u64 i, .agg #[.int .u64 s1, .int .u64 s2]] w fun e w' => e = .returned (.bool true) ∧ Below w.heap.size w w' := by
  by_cases hE : M.prsE h k i = 0
  · exact storeIn_yes h k i s1 s2 w h0 h1 g1 g2 g3 g4 hE
  · exact storeIn_no h k i s1 s2 w h0 h1 hE
set_option maxRecDepth 100000 in
theorem storeIn_walk (h k i : Int) (s : Int × Int) (w : World) (a0 : -9223372036854775808 ≤ h) (a1 : h ≤ 9223372036854775807) (b0 : -9223372036854775808 ≤ k) (b1 : k ≤ 9223372036854775807) (h0 : 0 ≤ i) (h1 : i ≤ 18446744073709551615) (hs : M.fitS s) :
    Calls Try.prog 5 #[.int .i64 h, .int .i64 k, .int .u64 i, .agg #[.int .u64 s.1, .int .u64 s.2]] w fun e w' => e = .returned (.bool true) ∧ Below w.heap.size w w' :=
  storeIn_walkq h k i s.1 s.2 w a0 a1 b0 b1 h0 h1 hs.1.1 hs.1.2 hs.2.1 hs.2.2
end Go.Proofs.Ythmiekinjfaflaa
