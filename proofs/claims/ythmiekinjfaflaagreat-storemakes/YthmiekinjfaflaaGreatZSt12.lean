/-
  What the document's Check of layer 14 answers at every input. Conditions: the slices hold terms, and entries.
-/
import Derived.Test.YthmiekinjfaflaaGreatZSt11
import Derived.Test.YthmiekinjfaflaaGreatZSt8
namespace Go.Proofs.YthmiekinjfaflaaGreat
open Go.RowKit
/-- a block of eleven cells -/
def BxE (W : World) (B : Nat) (x : M.En) : Prop := W.heap[B]? = some (.cells #[.int .u64 x.1.1, .int .u64 x.1.2, .bool x.2.1, .bool x.2.2.1, .int .u64 (M.nu x.2.2.2.1.1), .int .u64 (M.nu x.2.2.2.1.2), .int .u64 (M.nu x.2.2.2.2.1.1.1), .int .u64 (M.nu x.2.2.2.2.1.1.2), .int .u64 (M.nu x.2.2.2.2.1.2.1), .int .u64 (M.nu x.2.2.2.2.1.2.2), .int .i64 x.2.2.2.2.2] 57 (0, 0))
theorem BxE.lt {W : World} {B : Nat} {x : M.En} (h : BxE W B x) : B < W.heap.size := (Array.getElem?_eq_some_iff.1 h).1
theorem BxE.below {W W' : World} {B : Nat} {x : M.En} (h : BxE W B x) (hb : Below W.heap.size W W') : BxE W' B x := (hb.block B h.lt).trans h
set_option maxRecDepth 100000 in
theorem BxE.new (W : World) (x : M.En) : BxE (W.alloc (.cells #[.int .u64 x.1.1, .int .u64 x.1.2, .bool x.2.1, .bool x.2.2.1, .int .u64 (M.nu x.2.2.2.1.1), .int .u64 (M.nu x.2.2.2.1.2), .int .u64 (M.nu x.2.2.2.2.1.1.1), .int .u64 (M.nu x.2.2.2.2.1.1.2), .int .u64 (M.nu x.2.2.2.2.1.2.1), .int .u64 (M.nu x.2.2.2.2.1.2.2), .int .i64 x.2.2.2.2.2] 57)) W.heap.size x := by
  show (W.heap.push _)[W.heap.size]? = _
  simp
theorem BxE.cells {W : World} {B : Nat} {x : M.En} (h : BxE W B x) : W.cell? ⟨B, 0, none⟩ = some (.int .u64 x.1.1) ∧ W.cell? ⟨B, 1, none⟩ = some (.int .u64 x.1.2) ∧ W.cell? ⟨B, 2, none⟩ = some (.bool x.2.1) ∧ W.cell? ⟨B, 3, none⟩ = some (.bool x.2.2.1) ∧ W.cell? ⟨B, 4, none⟩ = some (.int .u64 (M.nu x.2.2.2.1.1)) ∧ W.cell? ⟨B, 5, none⟩ = some (.int .u64 (M.nu x.2.2.2.1.2)) ∧ W.cell? ⟨B, 6, none⟩ = some (.int .u64 (M.nu x.2.2.2.2.1.1.1)) ∧ W.cell? ⟨B, 7, none⟩ = some (.int .u64 (M.nu x.2.2.2.2.1.1.2)) ∧ W.cell? ⟨B, 8, none⟩ = some (.int .u64 (M.nu x.2.2.2.2.1.2.1)) ∧ W.cell? ⟨B, 9, none⟩ = some (.int .u64 (M.nu x.2.2.2.2.1.2.2)) ∧ W.cell? ⟨B, 10, none⟩ = some (.int .i64 x.2.2.2.2.2) := by
  have h' : W.heap[B]? = _ := h
  refine ⟨?_, ?_, ?_, ?_, ?_, ?_, ?_, ?_, ?_, ?_, ?_⟩ <;> simp [World.cell?, h']
set_option maxRecDepth 100000 in
set_option maxHeartbeats 4000000 in
theorem rchk14_noE {A : List M.Tm} {h k i : Int} {S : List M.En} (hE : ¬ M.prsE h k i = 0) (h0 : 0 ≤ i) (h1 : i ≤ 18446744073709551615) {vl vs : Value} (w : World) (u : Ts w vl A) (us : Es w vs S) :
    Calls Tryz.prog 10 #[vl, .int .i64 h, .int .i64 k, .int .u64 i, vs] w fun e w' => e = .returned (.int .i64 1) ∧ Below w.heap.size w w' := by
  have SP := hidq (fun W => rspairs_any h k i W h0 h1)
  obtain ⟨as_, cs, rfl, -⟩ := us.form
  have U0 := hidq u
  have E0 := hidq us
  generalize M.prsE h k i = E at *
  have HM := hidq (rfl : (M.prsL h k i).length = (M.prsL h k i).length)
  have hEb : (E == 0) = false := by rw [beq_eq_false_iff_ne]; exact hE
  clear u us
  go_enter Tryz.func10, Tryz.ntmps10
  go_wp2_with (first | (go_at_call 19; refine (SP.out _).mono ?_; rintro e w1 ⟨v1, rfl, s1, hb1⟩; obtain ⟨ap, cp, e1, kp, kM, vp⟩ := s1.form; rw [HM.out] at e1 kp; subst e1; have S1 := hidq s1; have VP := hidq vp; have U1 := hidq (U0.out.below hb1); have E1 := hidq (E0.out.below hb1); have B1 := hidq hb1; clear s1 vp hb1))
  go_ret
  exact ⟨rfl, B1.out⟩
set_option maxRecDepth 100000 in
set_option maxHeartbeats 4000000 in
theorem rchk14_noO {A : List M.Tm} {h k i : Int} {S : List M.En} (hE : M.prsE h k i = 0) (hO : ¬ M.Ok A) (h0 : 0 ≤ i) (h1 : i ≤ 18446744073709551615) {vl vs : Value} (w : World) (u : Ts w vl A) (us : Es w vs S) :
    Calls Tryz.prog 10 #[vl, .int .i64 h, .int .i64 k, .int .u64 i, vs] w fun e w' => e = .returned (.int .i64 1) ∧ Below w.heap.size w w' := by
  have SP := hidq (fun W => rspairs_any h k i W h0 h1)
  rw [hE] at SP
  obtain ⟨as_, cs, rfl, -⟩ := us.form
  have U0 := hidq u
  have E0 := hidq us
  have HM := hidq (rfl : (M.prsL h k i).length = (M.prsL h k i).length)
  have HC := hidq (show M.chkE A = 1 from if_neg hO)
  clear u us
  go_enter Tryz.func10, Tryz.ntmps10
  go_wp2_with (first | (go_at_call 19; refine (SP.out _).mono ?_; rintro e w1 ⟨v1, rfl, s1, hb1⟩; obtain ⟨ap, cp, e1, kp, kM, vp⟩ := s1.form; rw [HM.out] at e1 kp; subst e1; have S1 := hidq s1; have VP := hidq vp; have U1 := hidq (U0.out.below hb1); have E1 := hidq (E0.out.below hb1); have B1 := hidq hb1; clear s1 vp hb1) | (go_at_call 23; refine (rcheck_eq HC.out _ U1.out).mono ?_; rintro e w2 ⟨rfl, hb2⟩; have U2 := hidq (U1.out.below hb2); have E2 := hidq (E1.out.below hb2); have S2 := hidq (S1.out.below hb2); have B2 := hidq (below_trans B1.out hb2); clear hb2))
  go_ret
  exact ⟨rfl, B2.out⟩
set_option maxRecDepth 100000 in
set_option maxHeartbeats 4000000 in
theorem rchk14_noL {A : List M.Tm} {h k i : Int} {S : List M.En} (hE : M.prsE h k i = 0) (hO : M.Ok A) (hl : ¬ (M.prsL h k i).length = S.length) (h0 : 0 ≤ i) (h1 : i ≤ 18446744073709551615) {vl vs : Value} (w : World) (u : Ts w vl A) (us : Es w vs S) :
    Calls Tryz.prog 10 #[vl, .int .i64 h, .int .i64 k, .int .u64 i, vs] w fun e w' => e = .returned (.int .i64 1) ∧ Below w.heap.size w w' := by
  have SP := hidq (fun W => rspairs_any h k i W h0 h1)
  rw [hE] at SP
  obtain ⟨as_, cs, rfl, -⟩ := us.form
  have U0 := hidq u
  have E0 := hidq us
  have HC := hidq (show M.chkE A = 0 from if_pos hO)
  have hl1 : ¬ ((M.prsL h k i).length : Int) = S.length := by omega
  have hl2 : (((M.prsL h k i).length : Int) == S.length) = false := by rw [beq_eq_false_iff_ne]; exact hl1
  generalize M.prsL h k i = C at *
  generalize hM : C.length = N at *
  have HM := hidq hM
  clear u us hM
  go_enter Tryz.func10, Tryz.ntmps10
  go_wp2_with (first | (go_at_call 19; refine (SP.out _).mono ?_; rintro e w1 ⟨v1, rfl, s1, hb1⟩; obtain ⟨ap, cp, e1, kp, kM, vp⟩ := s1.form; rw [HM.out] at e1 kp; subst e1; have S1 := hidq s1; have VP := hidq vp; have U1 := hidq (U0.out.below hb1); have E1 := hidq (E0.out.below hb1); have B1 := hidq hb1; clear s1 vp hb1) | (go_at_call 23; refine (rcheck_eq HC.out _ U1.out).mono ?_; rintro e w2 ⟨rfl, hb2⟩; have U2 := hidq (U1.out.below hb2); have E2 := hidq (E1.out.below hb2); have S2 := hidq (S1.out.below hb2); have B2 := hidq (below_trans B1.out hb2); clear hb2))
  go_ret
  exact ⟨rfl, B2.out⟩
set_option maxRecDepth 100000 in
set_option maxHeartbeats 16000000 in
theorem rchk14_yes {A : List M.Tm} {h k i : Int} {S : List M.En} (hE : M.prsE h k i = 0) (hO : M.Ok A) (hl : (M.prsL h k i).length = S.length) (h0 : 0 ≤ i) (h1 : i ≤ 18446744073709551615) {vl vs : Value} (w : World) (u : Ts w vl A) (us : Es w vs S) :
    Calls Tryz.prog 10 #[vl, .int .i64 h, .int .i64 k, .int .u64 i, vs] w fun e w' => e = .returned (.int .i64 (if M.okL A (M.symE S) S (M.prsL h k i) = true then 0 else 1)) ∧ Below w.heap.size w w' := by
  have SP := hidq (fun W => rspairs_any h k i W h0 h1)
  rw [hE] at SP
  have HSm := hidq (M.pm_small h0 hE)
  rw [hl] at HSm
  obtain ⟨as_, cs, rfl, ks, kMs, vs_⟩ := us.form
  have VS := hidq vs_
  have U0 := hidq u
  have E0 := hidq us
  have HC := hidq (show M.chkE A = 0 from if_pos hO)
  have HO1 := hidq (fun (v : M.Val) (r : Bool) (h : M.opn A v = r) W (u : Ts W vl A) => ropn_eq h W u)
  have HFs := hidq us.oks
  generalize M.prsL h k i = C at *
  generalize hN : S.length = n at *
  have HN := hidq hN
  have HM := hidq hl
  obtain ⟨b, hb0⟩ : ∃ b, M.symE S = b := ⟨_, rfl⟩
  have HB := hidq hb0
  rw [hb0]
  obtain ⟨R, hR⟩ : ∃ R, M.okL A b S C = R := ⟨_, rfl⟩
  have HR := hidq hR
  rw [hR]
  obtain ⟨ans, hans⟩ : ∃ ans : Int, (if R = true then 0 else 1) = ans := ⟨_, rfl⟩
  have HAns := hidq hans
  rw [hans]
  clear u us hN hl hb0 vs_ hO hR hE kMs hans
  go_enter Tryz.func10, Tryz.ntmps10
  go_wp2_with (first | (go_at_call 19; refine (SP.out _).mono ?_; rintro e w1 ⟨v1, rfl, s1, hb1⟩; obtain ⟨ap, cp, e1, kp, kM, vp⟩ := s1.form; rw [HM.out] at e1 kp; subst e1; have S1 := hidq s1; have VP := hidq vp; have U1 := hidq (U0.out.below hb1); have E1 := hidq (E0.out.below hb1); have B1 := hidq hb1; clear s1 vp hb1) | (go_at_call 23; refine (rcheck_eq HC.out _ U1.out).mono ?_; rintro e w2 ⟨rfl, hb2⟩; have U2 := hidq (U1.out.below hb2); have E2 := hidq (E1.out.below hb2); have S2 := hidq (S1.out.below hb2); have B2 := hidq (below_trans B1.out hb2); clear hb2))
  go_loopw [38] (fun a wr => ∃ (q : Nat), q ≤ n ∧ a = .int .i64 q ∧ M.okL A b (S.drop q) (C.drop q) = R ∧ Below w2.heap.size w2 wr) (fun a _ => n - (intOf a).toNat)
  case atStart => exact ⟨0, by omega, rfl, HR.out, Below.refl _ _⟩
  case round =>
    obtain ⟨q, hq, rfl, hok, hb⟩ := hrel
    have BZ := hidq hb
    have hN8 := HSm.out
    by_cases hqn : q < n
    · have hqi : (q : Int) < n := by omega
      obtain ⟨bS, oS, rfl⟩ := VS.out (by omega)
      obtain ⟨bP, oP, rfl⟩ := VP.out (by omega)
      obtain ⟨x, hx⟩ : ∃ x, S[q]? = some x := ⟨_, List.getElem?_eq_getElem (by rw [HN.out]; exact hqn)⟩
      obtain ⟨c, hc⟩ : ∃ c, C[q]? = some c := ⟨_, List.getElem?_eq_getElem (by rw [HM.out]; exact hqn)⟩
      obtain ⟨z, hz⟩ : ∃ z, S[0]? = some z := ⟨_, List.getElem?_eq_getElem (by rw [HN.out]; omega)⟩
      have hbz : z.2.1 = b := by rw [← HB.out]; unfold M.symE; rw [hz]; rfl
      rw [M.okL_drop hx hc] at hok
      have HZ := hidq hz
      obtain ⟨x0, x1, x2, x3, x4, x5, x6, x7, x8, x9, xa⟩ := Es.cell (E2.out.below hb) hx
      obtain ⟨⟨y, d⟩, v⟩ := x
      obtain ⟨y', d'⟩ := c
      dsimp only at x0 x1 x2 x3 x4 x5 x6 x7 x8 x9 xa hok
      obtain ⟨r, hr⟩ : ∃ r, decide (((y, d) : Int × Int) = (y', d')) = r := ⟨_, rfl⟩
      have hq0 := fun W => eqSub y d y' d' W
      rw [hr] at hq0 hok
      obtain ⟨o, ho⟩ : ∃ o, M.opn A v = o := ⟨_, rfl⟩
      have HO := hidq (HO1.out _ _ ho)
      rw [ho] at hok
      obtain ⟨m, hm⟩ : ∃ m, (v.1 == b) = m := ⟨_, rfl⟩
      rw [hm] at hok
      have HOK := hidq hok
      obtain ⟨z2, hz2⟩ : ∃ z2, z.2.1 = z2 := ⟨_, rfl⟩
      rw [hz2] at hbz
      subst hbz
      clear hx hz hr ho hok HO1
      cases r with
      | false =>
        have hRf : R = false := by rw [← HOK.out]; simp
        have hz1 : ans = 1 := by rw [← HAns.out, hRf]; rfl
        subst hz1
        go_wp2_with (fail)
        obtain ⟨G', HG, HFc, HOc, HW, ne⟩ := clq_of w2 (wr.alloc (.cells #[.int .u64 y, .int .u64 d, .bool v.1, .bool v.2.1, .int .u64 (M.nu v.2.2.1.1), .int .u64 (M.nu v.2.2.1.2), .int .u64 (M.nu v.2.2.2.1.1.1), .int .u64 (M.nu v.2.2.2.1.1.2), .int .u64 (M.nu v.2.2.2.1.2.1), .int .u64 (M.nu v.2.2.2.1.2.2), .int .i64 v.2.2.2.2] 57)) (fun X => BxE X wr.heap.size ((y, d), v) ∧ Ss X (.slice (some ⟨bP, oP, none⟩) n cp) C ∧ Es X (.slice (some ⟨bS, oS, none⟩) n cs) S ∧ Ts X vl A) (fun _ _ h hb => ⟨h.1.below hb, h.2.1.below hb, h.2.2.1.below hb, h.2.2.2.below hb⟩) ⟨BxE.new wr ((y, d), v), (S2.out.below hb).alloc _, (E2.out.below hb).alloc _, (U2.out.below hb).alloc _⟩ (below_one (o := (.cells #[.int .u64 y, .int .u64 d, .bool v.1, .bool v.2.1, .int .u64 (M.nu v.2.2.1.1), .int .u64 (M.nu v.2.2.1.2), .int .u64 (M.nu v.2.2.2.1.1.1), .int .u64 (M.nu v.2.2.2.1.1.2), .int .u64 (M.nu v.2.2.2.1.2.1), .int .u64 (M.nu v.2.2.2.1.2.2), .int .i64 v.2.2.2.2] 57)) hb)
        have g0c := fun c : Clq G' => (HFc.out c).1.cells
        have g1c := fun c : Clq G' => (Ss.at (HFc.out c).2.1 hc).1
        have g2c := fun c : Clq G' => (Ss.at (HFc.out c).2.1 hc).2
        have g3c := fun c : Clq G' => (Es.cell (HFc.out c).2.2.1 HZ.out).2.2.1
        simp only [Nat.zero_mul, Nat.add_zero] at g3c
        dsimp only at g0c g1c g2c g3c
        clear hc
        refine regionq (by kernel_rfl) (by kernel_rfl) HW.out ?_
        repeat (go_big_quiet_step (first | (go_at_call 20; exact quietq HG.out _ (HO.out _ (HFc.out _).2.2.2))))
        refine wpQuiet_nil ?_
        rintro _ ⟨s9, rfl⟩
        have B9 := hidq (HOc.out s9)
        generalize s9.W = W9 at *
        clear g0c g1c g2c g3c
        go_wp2
        go_ret
        exact ⟨rfl, below_trans B2.out B9.out⟩
      | true =>
        cases o with
        | false =>
          have hRf : R = false := by rw [← HOK.out]; simp
          have hz1 : ans = 1 := by rw [← HAns.out, hRf]; rfl
          subst hz1
          go_wp2_with (fail)
          obtain ⟨G', HG, HFc, HOc, HW, ne⟩ := clq_of w2 (wr.alloc (.cells #[.int .u64 y, .int .u64 d, .bool v.1, .bool v.2.1, .int .u64 (M.nu v.2.2.1.1), .int .u64 (M.nu v.2.2.1.2), .int .u64 (M.nu v.2.2.2.1.1.1), .int .u64 (M.nu v.2.2.2.1.1.2), .int .u64 (M.nu v.2.2.2.1.2.1), .int .u64 (M.nu v.2.2.2.1.2.2), .int .i64 v.2.2.2.2] 57)) (fun X => BxE X wr.heap.size ((y, d), v) ∧ Ss X (.slice (some ⟨bP, oP, none⟩) n cp) C ∧ Es X (.slice (some ⟨bS, oS, none⟩) n cs) S ∧ Ts X vl A) (fun _ _ h hb => ⟨h.1.below hb, h.2.1.below hb, h.2.2.1.below hb, h.2.2.2.below hb⟩) ⟨BxE.new wr ((y, d), v), (S2.out.below hb).alloc _, (E2.out.below hb).alloc _, (U2.out.below hb).alloc _⟩ (below_one (o := (.cells #[.int .u64 y, .int .u64 d, .bool v.1, .bool v.2.1, .int .u64 (M.nu v.2.2.1.1), .int .u64 (M.nu v.2.2.1.2), .int .u64 (M.nu v.2.2.2.1.1.1), .int .u64 (M.nu v.2.2.2.1.1.2), .int .u64 (M.nu v.2.2.2.1.2.1), .int .u64 (M.nu v.2.2.2.1.2.2), .int .i64 v.2.2.2.2] 57)) hb)
          have g0c := fun c : Clq G' => (HFc.out c).1.cells
          have g1c := fun c : Clq G' => (Ss.at (HFc.out c).2.1 hc).1
          have g2c := fun c : Clq G' => (Ss.at (HFc.out c).2.1 hc).2
          have g3c := fun c : Clq G' => (Es.cell (HFc.out c).2.2.1 HZ.out).2.2.1
          simp only [Nat.zero_mul, Nat.add_zero] at g3c
          dsimp only at g0c g1c g2c g3c
          clear hc
          refine regionq (by kernel_rfl) (by kernel_rfl) HW.out ?_
          repeat (go_big_quiet_step (first | (go_at_call 20; exact quietq HG.out _ (HO.out _ (HFc.out _).2.2.2))))
          refine wpQuiet_nil ?_
          rintro _ ⟨s9, rfl⟩
          have B9 := hidq (HOc.out s9)
          generalize s9.W = W9 at *
          clear g0c g1c g2c g3c
          go_wp2
          go_ret
          exact ⟨rfl, below_trans B2.out B9.out⟩
        | true =>
          cases m with
          | false =>
            have hRf : R = false := by rw [← HOK.out]; simp
            have hz1 : ans = 1 := by rw [← HAns.out, hRf]; rfl
            subst hz1
            go_wp2_with (fail)
            obtain ⟨G', HG, HFc, HOc, HW, ne⟩ := clq_of w2 (wr.alloc (.cells #[.int .u64 y, .int .u64 d, .bool v.1, .bool v.2.1, .int .u64 (M.nu v.2.2.1.1), .int .u64 (M.nu v.2.2.1.2), .int .u64 (M.nu v.2.2.2.1.1.1), .int .u64 (M.nu v.2.2.2.1.1.2), .int .u64 (M.nu v.2.2.2.1.2.1), .int .u64 (M.nu v.2.2.2.1.2.2), .int .i64 v.2.2.2.2] 57)) (fun X => BxE X wr.heap.size ((y, d), v) ∧ Ss X (.slice (some ⟨bP, oP, none⟩) n cp) C ∧ Es X (.slice (some ⟨bS, oS, none⟩) n cs) S ∧ Ts X vl A) (fun _ _ h hb => ⟨h.1.below hb, h.2.1.below hb, h.2.2.1.below hb, h.2.2.2.below hb⟩) ⟨BxE.new wr ((y, d), v), (S2.out.below hb).alloc _, (E2.out.below hb).alloc _, (U2.out.below hb).alloc _⟩ (below_one (o := (.cells #[.int .u64 y, .int .u64 d, .bool v.1, .bool v.2.1, .int .u64 (M.nu v.2.2.1.1), .int .u64 (M.nu v.2.2.1.2), .int .u64 (M.nu v.2.2.2.1.1.1), .int .u64 (M.nu v.2.2.2.1.1.2), .int .u64 (M.nu v.2.2.2.1.2.1), .int .u64 (M.nu v.2.2.2.1.2.2), .int .i64 v.2.2.2.2] 57)) hb)
            have g0c := fun c : Clq G' => (HFc.out c).1.cells
            have g1c := fun c : Clq G' => (Ss.at (HFc.out c).2.1 hc).1
            have g2c := fun c : Clq G' => (Ss.at (HFc.out c).2.1 hc).2
            have g3c := fun c : Clq G' => (Es.cell (HFc.out c).2.2.1 HZ.out).2.2.1
            simp only [Nat.zero_mul, Nat.add_zero] at g3c
            dsimp only at g0c g1c g2c g3c
            clear hc
            refine regionq (by kernel_rfl) (by kernel_rfl) HW.out ?_
            repeat (go_big_quiet_step (first | (go_at_call 20; exact quietq HG.out _ (HO.out _ (HFc.out _).2.2.2))))
            refine wpQuiet_nil ?_
            rintro _ ⟨s9, rfl⟩
            have B9 := hidq (HOc.out s9)
            generalize s9.W = W9 at *
            clear g0c g1c g2c g3c
            go_wp2
            go_ret
            exact ⟨rfl, below_trans B2.out B9.out⟩
          | true =>
            have HOK := hidq (show M.okL A z2 (S.drop (q + 1)) (C.drop (q + 1)) = R by rw [← HOK.out]; simp)
            go_wp2_with (fail)
            obtain ⟨G', HG, HFc, HOc, HW, ne⟩ := clq_of w2 (wr.alloc (.cells #[.int .u64 y, .int .u64 d, .bool v.1, .bool v.2.1, .int .u64 (M.nu v.2.2.1.1), .int .u64 (M.nu v.2.2.1.2), .int .u64 (M.nu v.2.2.2.1.1.1), .int .u64 (M.nu v.2.2.2.1.1.2), .int .u64 (M.nu v.2.2.2.1.2.1), .int .u64 (M.nu v.2.2.2.1.2.2), .int .i64 v.2.2.2.2] 57)) (fun X => BxE X wr.heap.size ((y, d), v) ∧ Ss X (.slice (some ⟨bP, oP, none⟩) n cp) C ∧ Es X (.slice (some ⟨bS, oS, none⟩) n cs) S ∧ Ts X vl A) (fun _ _ h hb => ⟨h.1.below hb, h.2.1.below hb, h.2.2.1.below hb, h.2.2.2.below hb⟩) ⟨BxE.new wr ((y, d), v), (S2.out.below hb).alloc _, (E2.out.below hb).alloc _, (U2.out.below hb).alloc _⟩ (below_one (o := (.cells #[.int .u64 y, .int .u64 d, .bool v.1, .bool v.2.1, .int .u64 (M.nu v.2.2.1.1), .int .u64 (M.nu v.2.2.1.2), .int .u64 (M.nu v.2.2.2.1.1.1), .int .u64 (M.nu v.2.2.2.1.1.2), .int .u64 (M.nu v.2.2.2.1.2.1), .int .u64 (M.nu v.2.2.2.1.2.2), .int .i64 v.2.2.2.2] 57)) hb)
            have g0c := fun c : Clq G' => (HFc.out c).1.cells
            have g1c := fun c : Clq G' => (Ss.at (HFc.out c).2.1 hc).1
            have g2c := fun c : Clq G' => (Ss.at (HFc.out c).2.1 hc).2
            have g3c := fun c : Clq G' => (Es.cell (HFc.out c).2.2.1 HZ.out).2.2.1
            simp only [Nat.zero_mul, Nat.add_zero] at g3c
            dsimp only at g0c g1c g2c g3c
            clear hc
            refine regionq (by kernel_rfl) (by kernel_rfl) HW.out ?_
            repeat (go_big_quiet_step (first | (go_at_call 20; exact quietq HG.out _ (HO.out _ (HFc.out _).2.2.2))))
            refine wpQuiet_nil ?_
            rintro _ ⟨s9, rfl⟩
            have B9 := hidq (HOc.out s9)
            generalize s9.W = W9 at *
            clear g0c g1c g2c g3c
            go_wp2
            go_roundw
            case rel => exact ⟨q + 1, by omega, by go_num, HOK.out, B9.out⟩
            case measure => simp [intOf]; omega
    · obtain rfl : q = n := by omega
      have hqi : ¬ (q : Int) < q := by omega
      rw [List.drop_of_length_le (by rw [HN.out]; exact Nat.le_refl _), List.drop_of_length_le (by rw [HM.out]; exact Nat.le_refl _)] at hok
      have hz1 : ans = 0 := by rw [← HAns.out, ← hok]; rfl
      subst hz1
      clear hb
      go_wp2
      go_ret
      exact ⟨rfl, below_trans B2.out BZ.out⟩
set_option maxRecDepth 100000 in
theorem rchk14_eq {A : List M.Tm} {h k i : Int} {S : List M.En} {r : Int} (hr : M.chk14 A h k i S = r) (h0 : 0 ≤ i) (h1 : i ≤ 18446744073709551615) {vl vs : Value} (w : World) (u : Ts w vl A) (us : Es w vs S) :
    Calls Tryz.prog 10 #[vl, .int .i64 h, .int .i64 k, .int .u64 i, vs] w fun e w' => e = .returned (.int .i64 r) ∧ Below w.heap.size w w' := by
  subst hr
  unfold M.chk14
  by_cases hE : M.prsE h k i = 0
  · by_cases hO : M.Ok A
    · rw [decide_eq_true hE, decide_eq_true hO, Bool.true_and, Bool.true_and]
      by_cases hl : (M.prsL h k i).length = S.length
      · exact rchk14_yes hE hO hl h0 h1 w u us
      · rw [if_neg (fun hk => hl (M.okL_len S _ hk).symm)]
        exact rchk14_noL hE hO hl h0 h1 w u us
    · rw [decide_eq_false hO, Bool.false_and, Bool.and_false, if_neg (by decide)]
      exact rchk14_noO hE hO h0 h1 w u us
  · rw [decide_eq_false hE, Bool.false_and, if_neg (by decide)]
    exact rchk14_noE hE h0 h1 w u us
end Go.Proofs.YthmiekinjfaflaaGreat
