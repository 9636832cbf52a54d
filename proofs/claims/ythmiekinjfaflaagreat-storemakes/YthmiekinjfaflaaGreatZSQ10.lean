/-
  What the program's store.Check answers at every input. Conditions: the slices hold terms, and entries.
-/
import Derived.Test.YthmiekinjfaflaaGreatZSQ0
import Derived.Test.YthmiekinjfaflaaGreatZSQ2
import Derived.Test.YthmiekinjfaflaaGreatZSQ9
import Derived.Test.YthmiekinjfaflaaGreatZSt12
import Derived.Test.YthmiekinjfaflaaGreatZSt13
import Derived.Test.YthmiekinjfaflaaGreatZU2
namespace Go.Proofs.YthmiekinjfaflaaGreat
open Go.RowKit
set_option maxRecDepth 100000 in
set_option maxHeartbeats 4000000 in
theorem schk14_noE {A : List M.Tm} {h k i : Int} {S : List M.En} (hE : ¬ M.prsE h k i = 0) (h0 : 0 ≤ i) (h1 : i ≤ 18446744073709551615) {vl vs : Value} (w : World) (u : Ts w vl A) (us : Es w vs S) :
    Calls Tryz.prog 9 #[vl, .int .i64 h, .int .i64 k, .int .u64 i, vs] w fun e w' => e = .returned (.int .i64 1) ∧ Below w.heap.size w w' := by
  have SP := hidq (fun W => spairs_any h k i W h0 h1)
  obtain ⟨as_, cs, rfl, -⟩ := us.form
  have U0 := hidq u
  have E0 := hidq us
  generalize M.prsE h k i = E at *
  have HM := hidq (rfl : (M.prsL h k i).length = (M.prsL h k i).length)
  have hEb : (E == 0) = false := by rw [beq_eq_false_iff_ne]; exact hE
  clear u us
  go_enter Tryz.func9, Tryz.ntmps9
  go_wp2_with (first | (go_at_call 12; refine (SP.out _).mono ?_; rintro e w1 ⟨v1, rfl, s1, hb1⟩; obtain ⟨ap, cp, e1, kp, kM, vp⟩ := s1.form; rw [HM.out] at e1 kp; subst e1; have S1 := hidq s1; have VP := hidq vp; have U1 := hidq (U0.out.below hb1); have E1 := hidq (E0.out.below hb1); have B1 := hidq hb1; clear s1 vp hb1))
  go_ret
  exact ⟨rfl, B1.out⟩
set_option maxRecDepth 100000 in
set_option maxHeartbeats 4000000 in
theorem schk14_noO {A : List M.Tm} {h k i : Int} {S : List M.En} (hE : M.prsE h k i = 0) (hO : ¬ M.Ok A) (hl : (M.prsL h k i).length = S.length) (h0 : 0 ≤ i) (h1 : i ≤ 18446744073709551615) {vl vs : Value} (w : World) (u : Ts w vl A) (us : Es w vs S) :
    Calls Tryz.prog 9 #[vl, .int .i64 h, .int .i64 k, .int .u64 i, vs] w fun e w' => e = .returned (.int .i64 1) ∧ Below w.heap.size w w' := by
  have SP := hidq (fun W => spairs_any h k i W h0 h1)
  rw [hE] at SP
  obtain ⟨as_, cs, rfl, -⟩ := us.form
  have U0 := hidq u
  have E0 := hidq us
  have HC := hidq (show M.chkE A = 1 from if_neg hO)
  generalize M.prsL h k i = C at *
  have HM := hidq hl
  clear u us hl
  go_enter Tryz.func9, Tryz.ntmps9
  go_wp2_with (first | (go_at_call 12; refine (SP.out _).mono ?_; rintro e w1 ⟨v1, rfl, s1, hb1⟩; obtain ⟨ap, cp, e1, kp, kM, vp⟩ := s1.form; rw [HM.out] at e1 kp; subst e1; have S1 := hidq s1; have VP := hidq vp; have U1 := hidq (U0.out.below hb1); have E1 := hidq (E0.out.below hb1); have B1 := hidq hb1; clear s1 vp hb1) | (go_at_call 14; refine (check_eq HC.out _ U1.out).mono ?_; rintro e w2 ⟨rfl, hb2⟩; have U2 := hidq (U1.out.below hb2); have E2 := hidq (E1.out.below hb2); have S2 := hidq (S1.out.below hb2); have B2 := hidq (below_trans B1.out hb2); clear hb2))
  go_ret
  exact ⟨rfl, B2.out⟩
set_option maxRecDepth 100000 in
set_option maxHeartbeats 4000000 in
theorem schk14_noL {A : List M.Tm} {h k i : Int} {S : List M.En} (hE : M.prsE h k i = 0) (hl : ¬ (M.prsL h k i).length = S.length) (h0 : 0 ≤ i) (h1 : i ≤ 18446744073709551615) {vl vs : Value} (w : World) (u : Ts w vl A) (us : Es w vs S) :
    Calls Tryz.prog 9 #[vl, .int .i64 h, .int .i64 k, .int .u64 i, vs] w fun e w' => e = .returned (.int .i64 1) ∧ Below w.heap.size w w' := by
  have SP := hidq (fun W => spairs_any h k i W h0 h1)
  rw [hE] at SP
  obtain ⟨as_, cs, rfl, -⟩ := us.form
  have U0 := hidq u
  have E0 := hidq us
  have hl1 : ¬ (S.length : Int) = (M.prsL h k i).length := by omega
  have hl2 : ((S.length : Int) == (M.prsL h k i).length) = false := by rw [beq_eq_false_iff_ne]; exact hl1
  generalize M.prsL h k i = C at *
  generalize hM : C.length = N at *
  have HM := hidq hM
  clear u us hM
  go_enter Tryz.func9, Tryz.ntmps9
  go_wp2_with (first | (go_at_call 12; refine (SP.out _).mono ?_; rintro e w1 ⟨v1, rfl, s1, hb1⟩; obtain ⟨ap, cp, e1, kp, kM, vp⟩ := s1.form; rw [HM.out] at e1 kp; subst e1; have S1 := hidq s1; have VP := hidq vp; have U1 := hidq (U0.out.below hb1); have E1 := hidq (E0.out.below hb1); have B1 := hidq hb1; clear s1 vp hb1))
  go_ret
  exact ⟨rfl, B1.out⟩
set_option maxRecDepth 100000 in
set_option maxHeartbeats 16000000 in
theorem schk14_yes {A : List M.Tm} {h k i : Int} {S : List M.En} (hE : M.prsE h k i = 0) (hO : M.Ok A) (hl : (M.prsL h k i).length = S.length) (h0 : 0 ≤ i) (h1 : i ≤ 18446744073709551615) {vl vs : Value} (w : World) (u : Ts w vl A) (us : Es w vs S) :
    Calls Tryz.prog 9 #[vl, .int .i64 h, .int .i64 k, .int .u64 i, vs] w fun e w' => e = .returned (.int .i64 (if M.okL A (M.symE S) S (M.prsL h k i) = true then 0 else 1)) ∧ Below w.heap.size w w' := by
  have SP := hidq (fun W => spairs_any h k i W h0 h1)
  rw [hE] at SP
  have HSm := hidq (M.pm_small h0 hE)
  rw [hl] at HSm
  obtain ⟨as_, cs, rfl, ks, kMs, vs_⟩ := us.form
  have VS := hidq vs_
  have U0 := hidq u
  have E0 := hidq us
  have HC := hidq (show M.chkE A = 0 from if_pos hO)
  have HO1 := hidq (fun (v : M.Val) (r : Bool) (h : M.opn A v = r) W (u : Ts W vl A) => had_any ((M.had_opn hO).trans h) W u)
  have HFs := hidq us.oks
  generalize M.prsL h k i = C at *
  generalize hN : S.length = n at *
  have HN := hidq hN
  have HM := hidq hl
  obtain ⟨b, hb0⟩ : ∃ b, M.symE S = b := ⟨_, rfl⟩
  have HB := hidq hb0
  rw [hb0]
  obtain ⟨R, hR⟩ : ∃ R, M.okL A b S C = R := ⟨_, rfl⟩
  have HR := hidq hR
  rw [hR]
  obtain ⟨ans, hans⟩ : ∃ ans : Int, (if R = true then 0 else 1) = ans := ⟨_, rfl⟩
  have HAns := hidq hans
  rw [hans]
  clear u us hN hl hb0 vs_ hO hR hE kMs hans
  go_enter Tryz.func9, Tryz.ntmps9
  go_wp2_with (first | (go_at_call 12; refine (SP.out _).mono ?_; rintro e w1 ⟨v1, rfl, s1, hb1⟩; obtain ⟨ap, cp, e1, kp, kM, vp⟩ := s1.form; rw [HM.out] at e1 kp; subst e1; have S1 := hidq s1; have VP := hidq vp; have U1 := hidq (U0.out.below hb1); have E1 := hidq (E0.out.below hb1); have B1 := hidq hb1; clear s1 vp hb1) | (go_at_call 14; refine (check_eq HC.out _ U1.out).mono ?_; rintro e w2 ⟨rfl, hb2⟩; have U2 := hidq (U1.out.below hb2); have E2 := hidq (E1.out.below hb2); have S2 := hidq (S1.out.below hb2); have B2 := hidq (below_trans B1.out hb2); clear hb2))
  go_loopw [38] (fun a wr => ∃ (q : Nat), q ≤ n ∧ a = .int .i64 q ∧ M.okL A b (S.drop q) (C.drop q) = R ∧ Below w2.heap.size w2 wr) (fun a _ => n - (intOf a).toNat)
  case atStart => exact ⟨0, by omega, rfl, HR.out, Below.refl _ _⟩
  case round =>
    obtain ⟨q, hq, rfl, hok, hb⟩ := hrel
    have BZ := hidq hb
    have hN8 := HSm.out
    by_cases hqn : q < n
    · have hqi : (q : Int) < n := by omega
      obtain ⟨bS, oS, rfl⟩ := VS.out (by omega)
      obtain ⟨bP, oP, rfl⟩ := VP.out (by omega)
      obtain ⟨x, hx⟩ : ∃ x, S[q]? = some x := ⟨_, List.getElem?_eq_getElem (by rw [HN.out]; exact hqn)⟩
      obtain ⟨c, hc⟩ : ∃ c, C[q]? = some c := ⟨_, List.getElem?_eq_getElem (by rw [HM.out]; exact hqn)⟩
      obtain ⟨z, hz⟩ : ∃ z, S[0]? = some z := ⟨_, List.getElem?_eq_getElem (by rw [HN.out]; omega)⟩
      have hbz : z.2.1 = b := by rw [← HB.out]; unfold M.symE; rw [hz]; rfl
      rw [M.okL_drop hx hc] at hok
      have HZ := hidq hz
      obtain ⟨x0, x1, x2, x3, x4, x5, x6, x7, x8, x9, xa⟩ := Es.cell (E2.out.below hb) hx
      obtain ⟨⟨y, d⟩, v⟩ := x
      obtain ⟨y', d'⟩ := c
      dsimp only at x0 x1 x2 x3 x4 x5 x6 x7 x8 x9 xa hok
      obtain ⟨r, hr⟩ : ∃ r, decide (((y, d) : Int × Int) = (y', d')) = r := ⟨_, rfl⟩
      have hq0 := fun W => eqSub y d y' d' W
      rw [hr] at hq0 hok
      obtain ⟨o, ho⟩ : ∃ o, M.opn A v = o := ⟨_, rfl⟩
      have HO := hidq (HO1.out _ _ ho)
      rw [ho] at hok
      obtain ⟨m, hm⟩ : ∃ m, (v.1 == b) = m := ⟨_, rfl⟩
      rw [hm] at hok
      have HOK := hidq hok
      obtain ⟨z2, hz2⟩ : ∃ z2, z.2.1 = z2 := ⟨_, rfl⟩
      rw [hz2] at hbz
      subst hbz
      clear hx hz hr ho hok HO1
      cases r with
      | false =>
        have hRf : R = false := by rw [← HOK.out]; simp
        have hz1 : ans = 1 := by rw [← HAns.out, hRf]; rfl
        subst hz1
        go_wp2_with (fail)
        obtain ⟨G', HG, HFc, HOc, HW, ne⟩ := clq_of w2 (wr.alloc (.cells #[.int .u64 y, .int .u64 d, .bool v.1, .bool v.2.1, .int .u64 (M.nu v.2.2.1.1), .int .u64 (M.nu v.2.2.1.2), .int .u64 (M.nu v.2.2.2.1.1.1), .int .u64 (M.nu v.2.2.2.1.1.2), .int .u64 (M.nu v.2.2.2.1.2.1), .int .u64 (M.nu v.2.2.2.1.2.2), .int .i64 v.2.2.2.2] 57)) (fun X => BxE X wr.heap.size ((y, d), v) ∧ Ss X (.slice (some ⟨bP, oP, none⟩) n cp) C ∧ Es X (.slice (some ⟨bS, oS, none⟩) n cs) S ∧ Ts X vl A) (fun _ _ h hb => ⟨h.1.below hb, h.2.1.below hb, h.2.2.1.below hb, h.2.2.2.below hb⟩) ⟨BxE.new wr ((y, d), v), (S2.out.below hb).alloc _, (E2.out.below hb).alloc _, (U2.out.below hb).alloc _⟩ (below_one (o := (.cells #[.int .u64 y, .int .u64 d, .bool v.1, .bool v.2.1, .int .u64 (M.nu v.2.2.1.1), .int .u64 (M.nu v.2.2.1.2), .int .u64 (M.nu v.2.2.2.1.1.1), .int .u64 (M.nu v.2.2.2.1.1.2), .int .u64 (M.nu v.2.2.2.1.2.1), .int .u64 (M.nu v.2.2.2.1.2.2), .int .i64 v.2.2.2.2] 57)) hb)
        have g0c := fun c : Clq G' => (HFc.out c).1.cells
        have g1c := fun c : Clq G' => (Ss.at (HFc.out c).2.1 hc).1
        have g2c := fun c : Clq G' => (Ss.at (HFc.out c).2.1 hc).2
        have g3c := fun c : Clq G' => (Es.cell (HFc.out c).2.2.1 HZ.out).2.2.1
        simp only [Nat.zero_mul, Nat.add_zero] at g3c
        dsimp only at g0c g1c g2c g3c
        clear hc
        refine regionq (by kernel_rfl) (by kernel_rfl) HW.out ?_
        repeat (go_big_quiet_step (first | (go_at_call 15; exact quietq HG.out _ (HO.out _ (HFc.out _).2.2.2))))
        refine wpQuiet_nil ?_
        rintro _ ⟨s9, rfl⟩
        have B9 := hidq (HOc.out s9)
        generalize s9.W = W9 at *
        clear g0c g1c g2c g3c
        go_wp2
        go_ret
        exact ⟨rfl, below_trans B2.out B9.out⟩
      | true =>
        cases m with
        | false =>
          have hRf : R = false := by rw [← HOK.out]; simp
          have hz1 : ans = 1 := by rw [← HAns.out, hRf]; rfl
          subst hz1
          go_wp2_with (fail)
          obtain ⟨G', HG, HFc, HOc, HW, ne⟩ := clq_of w2 (wr.alloc (.cells #[.int .u64 y, .int .u64 d, .bool v.1, .bool v.2.1, .int .u64 (M.nu v.2.2.1.1), .int .u64 (M.nu v.2.2.1.2), .int .u64 (M.nu v.2.2.2.1.1.1), .int .u64 (M.nu v.2.2.2.1.1.2), .int .u64 (M.nu v.2.2.2.1.2.1), .int .u64 (M.nu v.2.2.2.1.2.2), .int .i64 v.2.2.2.2] 57)) (fun X => BxE X wr.heap.size ((y, d), v) ∧ Ss X (.slice (some ⟨bP, oP, none⟩) n cp) C ∧ Es X (.slice (some ⟨bS, oS, none⟩) n cs) S ∧ Ts X vl A) (fun _ _ h hb => ⟨h.1.below hb, h.2.1.below hb, h.2.2.1.below hb, h.2.2.2.below hb⟩) ⟨BxE.new wr ((y, d), v), (S2.out.below hb).alloc _, (E2.out.below hb).alloc _, (U2.out.below hb).alloc _⟩ (below_one (o := (.cells #[.int .u64 y, .int .u64 d, .bool v.1, .bool v.2.1, .int .u64 (M.nu v.2.2.1.1), .int .u64 (M.nu v.2.2.1.2), .int .u64 (M.nu v.2.2.2.1.1.1), .int .u64 (M.nu v.2.2.2.1.1.2), .int .u64 (M.nu v.2.2.2.1.2.1), .int .u64 (M.nu v.2.2.2.1.2.2), .int .i64 v.2.2.2.2] 57)) hb)
          have g0c := fun c : Clq G' => (HFc.out c).1.cells
          have g1c := fun c : Clq G' => (Ss.at (HFc.out c).2.1 hc).1
          have g2c := fun c : Clq G' => (Ss.at (HFc.out c).2.1 hc).2
          have g3c := fun c : Clq G' => (Es.cell (HFc.out c).2.2.1 HZ.out).2.2.1
          simp only [Nat.zero_mul, Nat.add_zero] at g3c
          dsimp only at g0c g1c g2c g3c
          clear hc
          refine regionq (by kernel_rfl) (by kernel_rfl) HW.out ?_
          repeat (go_big_quiet_step (first | (go_at_call 15; exact quietq HG.out _ (HO.out _ (HFc.out _).2.2.2))))
          refine wpQuiet_nil ?_
          rintro _ ⟨s9, rfl⟩
          have B9 := hidq (HOc.out s9)
          generalize s9.W = W9 at *
          clear g0c g1c g2c g3c
          go_wp2
          go_ret
          exact ⟨rfl, below_trans B2.out B9.out⟩
        | true =>
          cases o with
          | false =>
            have hRf : R = false := by rw [← HOK.out]; simp
            have hz1 : ans = 1 := by rw [← HAns.out, hRf]; rfl
            subst hz1
            go_wp2_with (fail)
            obtain ⟨G', HG, HFc, HOc, HW, ne⟩ := clq_of w2 (wr.alloc (.cells #[.int .u64 y, .int .u64 d, .bool v.1, .bool v.2.1, .int .u64 (M.nu v.2.2.1.1), .int .u64 (M.nu v.2.2.1.2), .int .u64 (M.nu v.2.2.2.1.1.1), .int .u64 (M.nu v.2.2.2.1.1.2), .int .u64 (M.nu v.2.2.2.1.2.1), .int .u64 (M.nu v.2.2.2.1.2.2), .int .i64 v.2.2.2.2] 57)) (fun X => BxE X wr.heap.size ((y, d), v) ∧ Ss X (.slice (some ⟨bP, oP, none⟩) n cp) C ∧ Es X (.slice (some ⟨bS, oS, none⟩) n cs) S ∧ Ts X vl A) (fun _ _ h hb => ⟨h.1.below hb, h.2.1.below hb, h.2.2.1.below hb, h.2.2.2.below hb⟩) ⟨BxE.new wr ((y, d), v), (S2.out.below hb).alloc _, (E2.out.below hb).alloc _, (U2.out.below hb).alloc _⟩ (below_one (o := (.cells #[.int .u64 y, .int .u64 d, .bool v.1, .bool v.2.1, .int .u64 (M.nu v.2.2.1.1), .int .u64 (M.nu v.2.2.1.2), .int .u64 (M.nu v.2.2.2.1.1.1), .int .u64 (M.nu v.2.2.2.1.1.2), .int .u64 (M.nu v.2.2.2.1.2.1), .int .u64 (M.nu v.2.2.2.1.2.2), .int .i64 v.2.2.2.2] 57)) hb)
            have g0c := fun c : Clq G' => (HFc.out c).1.cells
            have g1c := fun c : Clq G' => (Ss.at (HFc.out c).2.1 hc).1
            have g2c := fun c : Clq G' => (Ss.at (HFc.out c).2.1 hc).2
            have g3c := fun c : Clq G' => (Es.cell (HFc.out c).2.2.1 HZ.out).2.2.1
            simp only [Nat.zero_mul, Nat.add_zero] at g3c
            dsimp only at g0c g1c g2c g3c
            clear hc
            refine regionq (by kernel_rfl) (by kernel_rfl) HW.out ?_
            repeat (go_big_quiet_step (first | (go_at_call 15; exact quietq HG.out _ (HO.out _ (HFc.out _).2.2.2))))
            refine wpQuiet_nil ?_
            rintro _ ⟨s9, rfl⟩
            have B9 := hidq (HOc.out s9)
            generalize s9.W = W9 at *
            clear g0c g1c g2c g3c
            go_wp2
            go_ret
            exact ⟨rfl, below_trans B2.out B9.out⟩
          | true =>
            have HOK := hidq (show M.okL A z2 (S.drop (q + 1)) (C.drop (q + 1)) = R by rw [← HOK.out]; simp)
            go_wp2_with (fail)
            obtain ⟨G', HG, HFc, HOc, HW, ne⟩ := clq_of w2 (wr.alloc (.cells #[.int .u64 y, .int .u64 d, .bool v.1, .bool v.2.1, .int .u64 (M.nu v.2.2.1.1), .int .u64 (M.nu v.2.2.1.2), .int .u64 (M.nu v.2.2.2.1.1.1), .int .u64 (M.nu v.2.2.2.1.1.2), .int .u64 (M.nu v.2.2.2.1.2.1), .int .u64 (M.nu v.2.2.2.1.2.2), .int .i64 v.2.2.2.2] 57)) (fun X => BxE X wr.heap.size ((y, d), v) ∧ Ss X (.slice (some ⟨bP, oP, none⟩) n cp) C ∧ Es X (.slice (some ⟨bS, oS, none⟩) n cs) S ∧ Ts X vl A) (fun _ _ h hb => ⟨h.1.below hb, h.2.1.below hb, h.2.2.1.below hb, h.2.2.2.below hb⟩) ⟨BxE.new wr ((y, d), v), (S2.out.below hb).alloc _, (E2.out.below hb).alloc _, (U2.out.below hb).alloc _⟩ (below_one (o := (.cells #[.int .u64 y, .int .u64 d, .bool v.1, .bool v.2.1, .int .u64 (M.nu v.2.2.1.1), .int .u64 (M.nu v.2.2.1.2), .int .u64 (M.nu v.2.2.2.1.1.1), .int .u64 (M.nu v.2.2.2.1.1.2), .int .u64 (M.nu v.2.2.2.1.2.1), .int .u64 (M.nu v.2.2.2.1.2.2), .int .i64 v.2.2.2.2] 57)) hb)
            have g0c := fun c : Clq G' => (HFc.out c).1.cells
            have g1c := fun c : Clq G' => (Ss.at (HFc.out c).2.1 hc).1
            have g2c := fun c : Clq G' => (Ss.at (HFc.out c).2.1 hc).2
            have g3c := fun c : Clq G' => (Es.cell (HFc.out c).2.2.1 HZ.out).2.2.1
            simp only [Nat.zero_mul, Nat.add_zero] at g3c
            dsimp only at g0c g1c g2c g3c
            clear hc
            refine regionq (by kernel_rfl) (by kernel_rfl) HW.out ?_
            repeat (go_big_quiet_step (first | (go_at_call 15; exact quietq HG.out _ (HO.out _ (HFc.out _).2.2.2))))
            refine wpQuiet_nil ?_
            rintro _ ⟨s9, rfl⟩
            have B9 := hidq (HOc.out s9)
            generalize s9.W = W9 at *
            clear g0c g1c g2c g3c
            go_wp2
            go_roundw
            case rel => exact ⟨q + 1, by omega, by go_num, HOK.out, B9.out⟩
            case measure => simp [intOf]; omega
    · obtain rfl : q = n := by omega
      have hqi : ¬ (q : Int) < q := by omega
      rw [List.drop_of_length_le (by rw [HN.out]; exact Nat.le_refl _), List.drop_of_length_le (by rw [HM.out]; exact Nat.le_refl _)] at hok
      have hz1 : ans = 0 := by rw [← HAns.out, ← hok]; rfl
      subst hz1
      clear hb
      go_wp2
      go_ret
      exact ⟨rfl, below_trans B2.out BZ.out⟩
set_option maxRecDepth 100000 in
theorem schk14_eq {A : List M.Tm} {h k i : Int} {S : List M.En} {r : Int} (hr : M.chk14 A h k i S = r) (h0 : 0 ≤ i) (h1 : i ≤ 18446744073709551615) {vl vs : Value} (w : World) (u : Ts w vl A) (us : Es w vs S) :
    Calls Tryz.prog 9 #[vl, .int .i64 h, .int .i64 k, .int .u64 i, vs] w fun e w' => e = .returned (.int .i64 r) ∧ Below w.heap.size w w' := by
  subst hr
  unfold M.chk14
  by_cases hE : M.prsE h k i = 0
  · by_cases hl : (M.prsL h k i).length = S.length
    · by_cases hO : M.Ok A
      · rw [decide_eq_true hE, decide_eq_true hO, Bool.true_and, Bool.true_and]
        exact schk14_yes hE hO hl h0 h1 w u us
      · rw [decide_eq_false hO, Bool.false_and, Bool.and_false, if_neg (by decide)]
        exact schk14_noO hE hO hl h0 h1 w u us
    · have hk : M.okL A (M.symE S) S (M.prsL h k i) = false := Bool.eq_false_iff.2 (fun hk => hl (M.okL_len S _ hk).symm)
      rw [hk, Bool.and_false, Bool.and_false, if_neg (by decide)]
      exact schk14_noL hE hl h0 h1 w u us
  · rw [decide_eq_false hE, Bool.false_and, if_neg (by decide)]
    exact schk14_noE hE h0 h1 w u us
end Go.Proofs.YthmiekinjfaflaaGreat
namespace Go.Proofs.YthmiekinjfaflaaGreat
open Go.RowKit
set_option maxRecDepth 100000 in
theorem rsame14 {A : List M.Tm} {W : World} {v1 v2 : Value} (u1 : Ts W v1 A) (u2 : Ts W v2 A) :
    Calls Tryz.prog 8 #[v1, v2] W fun e w' => e = .returned (.bool true) ∧ Below W.heap.size W w' := by
  have := rsame_any A A v1 v2 W u1 u2
  rwa [decide_eq_true rfl] at this
end Go.Proofs.YthmiekinjfaflaaGreat
namespace Go.Proofs.YthmiekinjfaflaaGreat
open Go.RowKit
set_option maxRecDepth 100000 in
set_option maxHeartbeats 4000000 in
theorem equalE_eq {S T : List M.En} {r : Bool} (hr : M.eqLs S T = r) {v1 v2 : Value} (w : World) (u1 : Es w v1 S) (u2 : Es w v2 T) :
    Calls Tryz.prog 24 #[v1, v2] w fun e w' => e = .returned (.bool r) ∧ Below w.heap.size w w' := by
  obtain ⟨a1, c1, rfl, hp1, hp2, hp4⟩ := u1.form
  obtain ⟨a2, c2, rfl, hq1, hq2, hq4⟩ := u2.form
  have hm : S.length ≤ maxLen := by omega
  unfold maxLen at hm
  have U1 := hidq u1
  have U2 := hidq u2
  have HP4 := hidq hp4
  have HQ4 := hidq hq4
  have HR := hidq hr
  clear hp4 hq4 u1 u2 hr
  by_cases hl : T.length = S.length
  · rw [hl] at hq1 U2 ⊢
    have HL := hidq hl
    clear hl
    generalize hn : S.length = n at *
    have HN := hidq hn
    clear hn
    go_enter Tryz.func24, Tryz.ntmps24
    go_wp2
    go_loopw [13] (fun i wr => ∃ k : Nat, k ≤ n ∧ i = .int .i64 k ∧ S.take k = T.take k ∧ Below w.heap.size w wr) (fun i _ => n - (intOf i).toNat)
    case atStart => exact ⟨0, by omega, rfl, rfl, Below.refl _ _⟩
    case round =>
      obtain ⟨k, hk, rfl, heq, hb⟩ := hrel
      have HE := hidq heq
      have HB := hidq hb
      clear heq
      by_cases hlt : k < n
      · have hki : (k : Int) < n := by omega
        obtain ⟨b1, o1, rfl⟩ := HP4.out (by omega)
        obtain ⟨b2, o2, rfl⟩ := HQ4.out (by omega)
        obtain ⟨x, hx⟩ : ∃ x, S[k]? = some x := ⟨_, List.getElem?_eq_getElem (by rw [HN.out]; exact hlt)⟩
        obtain ⟨y, hy⟩ : ∃ y, T[k]? = some y := ⟨_, List.getElem?_eq_getElem (by rw [HL.out]; exact hlt)⟩
        obtain ⟨x0, x1, x2, x3, x4, x5, x6, x7, x8, x9, xa⟩ := Es.cell (U1.out.below hb) hx
        obtain ⟨y0, y1, y2, y3, y4, y5, y6, y7, y8, y9, ya⟩ := Es.cell (U2.out.below hb) hy
        obtain ⟨q, hq⟩ : ∃ q, M.eqB x y = q := ⟨_, rfl⟩
        have heq := fun W => eqEn x y W
        rw [hq] at heq
        have HX := hidq hx
        have HY := hidq hy
        clear hx hy hb
        cases q with
        | true =>
          have hxy := M.eqB_iff.1 hq
          have HT := hidq (show S.take (k + 1) = T.take (k + 1) by rw [List.take_add_one, List.take_add_one, HX.out, HY.out, HE.out, hxy])
          clear hq hxy
          go_wp2_with (fail)
          go_region
          all_goals
            go_wp2
            go_roundw
            case rel => exact ⟨k + 1, by omega, by go_num, HT.out, HB.out.drew⟩
            case measure => simp [intOf]; omega
        | false =>
          have hrf : r = false := by
            rw [← HR.out, Bool.eq_false_iff]
            intro e
            have h1 := HX.out
            rw [M.eqLs_iff.1 e, HY.out] at h1
            rw [M.eqB_iff.2 (Option.some.inj h1).symm] at hq
            exact absurd hq (by decide)
          subst hrf
          clear hq
          go_wp2_with (fail)
          go_region
          all_goals
            go_wp2
            go_ret
            exact ⟨rfl, HB.out.drew⟩
      · obtain rfl : k = n := by omega
        have hki : ¬ (k : Int) < k := by omega
        have hrt : r = true := by
          rw [← HR.out, M.eqLs_iff]
          have h1 := HE.out
          rwa [List.take_of_length_le (by rw [HN.out]; exact Nat.le_refl _), List.take_of_length_le (by rw [HL.out]; exact Nat.le_refl _)] at h1
        subst hrt
        clear hb
        go_wp2
        go_ret
        exact ⟨rfl, HB.out⟩
  · have hrf : r = false := by
      rw [← HR.out, Bool.eq_false_iff]
      intro e; exact hl (by rw [M.eqLs_iff.1 e])
    subst hrf
    have h1 : ¬ (S.length : Int) = T.length := by omega
    have h2 : ((S.length : Int) == T.length) = false := by rw [beq_eq_false_iff_ne]; exact h1
    generalize S.length = n at *
    generalize T.length = m at *
    clear hl
    go_enter Tryz.func24, Tryz.ntmps24
    go_wp2
    go_ret
    exact ⟨rfl, Below.refl _ _⟩
set_option maxRecDepth 100000 in
theorem ssameE_eq {S T : List M.En} {r : Bool} (hr : M.eqLs S T = r) {v1 v2 : Value} (w : World) (u1 : Es w v1 S) (u2 : Es w v2 T) :
    Calls Tryz.prog 11 #[v1, v2] w fun e w' => e = .returned (.bool r) ∧ Below w.heap.size w w' := by
  have U1 := hidq u1
  have U2 := hidq u2
  have HR := hidq hr
  obtain ⟨a1, c1, rfl, -⟩ := u1.form
  obtain ⟨a2, c2, rfl, -⟩ := u2.form
  clear u1 u2 hr
  go_enter Tryz.func11, Tryz.ntmps11
  go_wp2_with (go_at_call 24; refine (equalE_eq HR.out _ U1.out U2.out).mono ?_; rintro e w1 ⟨rfl, hb1⟩; have B1 := hidq hb1; clear hb1)
  go_ret
  exact ⟨rfl, B1.out⟩
end Go.Proofs.YthmiekinjfaflaaGreat
