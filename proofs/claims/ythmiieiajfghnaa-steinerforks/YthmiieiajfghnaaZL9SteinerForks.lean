/-
  The law SteinerForks returns true at every input: of a set that is not empty there is one fork less than leaves; forks are of its tree, and both their children are; of each node of it the deepest one is a fork, or a leaf. Conditions: the slice holds numbers, the numbers fit their kinds.
-/
import Derived.Test.YthmiieiajfghnaaZO11
import Derived.Test.YthmiieiajfghnaaZOQ
import Derived.Test.YthmiieiajfghnaaZTR
namespace Go.Proofs.Ythmiieiajfghnaa
open Go.RowKit
set_option maxRecDepth 100000 in
set_option maxHeartbeats 4000000 in
theorem steinerForks_long (h : Int) (L : List Int) (v : Value) (n : Int) (w : World) (hu : Us w v L) (hl : ¬ L.length ≤ 30) :
    Calls Try.prog 4 #[.int .i64 h, v, .int .u64 n] w fun e w' => e = .returned (.bool true) ∧ Below w.heap.size w w' := by
  obtain ⟨ao, cap, rfl, -⟩ := us_view hu
  have hB0 := Below.refl w.heap.size w
  have U0 := hu
  have hli : (30 : Int) < L.length := by omega
  clear hl hu
  have T1 := hidq trivial
  go_enter Try.func4, Try.ntmps4
  go_wp2_with (first | (go_at_call 9; clear T1; refine (live9_any _).mono ?_; rintro e w1 ⟨rfl, hb1⟩; have U1 := (U0.below hb1); clear U0; have hB1 := below_trans hB0 hb1))
  go_ret
  exact ⟨rfl, hB1⟩
set_option maxRecDepth 100000 in
set_option maxHeartbeats 4000000 in
theorem steinerForks_no (h : Int) (L : List Int) (v : Value) (n : Int) (w : World) (hu : Us w v L) (hl : L.length ≤ 30) (hs : M.setB h L = true → L = []) :
    Calls Try.prog 4 #[.int .i64 h, v, .int .u64 n] w fun e w' => e = .returned (.bool true) ∧ Below w.heap.size w w' := by
  have FC := hidq (fun W v (u : Us W v L) => stForks_any h L v W u)
  have hF : M.tfV h L = [] := by
    unfold M.tfV
    by_cases e : M.setE h L = 0
    · rw [if_pos e, hs (M.setE_zero.1 e), M.tree_nil]; rfl
    · rw [if_neg e]
  have hc : M.setE h L = 0 → (L.length : Int) = 0 := fun e => by rw [hs (M.setE_zero.1 e)]; rfl
  rw [hF] at FC
  obtain ⟨ao, cap, rfl, -⟩ := us_view hu
  have hB0 := Below.refl w.heap.size w
  have U0 := hu
  have hli : ¬ (30 : Int) < L.length := by omega
  have T1 := hidq trivial
  have T2 := hidq trivial
  by_cases e : M.setE h L = 0
  · have hl0 := hc e
    rw [e] at FC
    clear hl hu hs hF hc e
    go_enter Try.func4, Try.ntmps4
    go_wp2_with (first | (go_at_call 9; clear T1; refine (live9_any _).mono ?_; rintro e w1 ⟨rfl, hb1⟩; have U1 := (U0.below hb1); clear U0; have hB1 := below_trans hB0 hb1) | (go_at_call 16; clear T2; refine (FC.out _ _ U1).mono ?_; rintro e w2 ⟨x, rfl, X2, hb2⟩; have U2 := (U1.below hb2); clear U1; have hB2 := below_trans hB1 hb2; obtain ⟨aX2, cX2, rfl, -, vX2⟩ := us_view X2))
    go_ret
    exact ⟨rfl, hB2⟩
  · have hl1 : (M.setE h L == 0) = false := by rw [beq_eq_false_iff_ne]; exact e
    generalize M.setE h L = r at *
    clear hl hu hs hF hc
    go_enter Try.func4, Try.ntmps4
    go_wp2_with (first | (go_at_call 9; clear T1; refine (live9_any _).mono ?_; rintro e w1 ⟨rfl, hb1⟩; have U1 := (U0.below hb1); clear U0; have hB1 := below_trans hB0 hb1) | (go_at_call 16; clear T2; refine (FC.out _ _ U1).mono ?_; rintro e w2 ⟨x, rfl, X2, hb2⟩; have U2 := (U1.below hb2); clear U1; have hB2 := below_trans hB1 hb2; obtain ⟨aX2, cX2, rfl, -, vX2⟩ := us_view X2))
    go_ret
    exact ⟨rfl, hB2⟩
set_option maxRecDepth 100000 in
set_option maxHeartbeats 8000000 in
theorem steinerForks_yes (h : Int) (L : List Int) (v : Value) (n : Int) (w : World) (hu : Us w v L) (h0 : 0 ≤ n) (h1 : n ≤ 18446744073709551615) (hl : L.length ≤ 30) (hs : M.setB h L = true) (hne : L ≠ []) :
    Calls Try.prog 4 #[.int .i64 h, v, .int .u64 n] w fun e w' => e = .returned (.bool true) ∧ Below w.heap.size w w' := by
  have FC := hidq (fun W v (u : Us W v L) => stForks_any h L v W u)
  have EC := hidq (fun W v (u : Us W v L) => stDown_any h L v n W u h0 h1)
  have IC := hidq (fun W v c (u : Us W v L) => stIs_any h L v c W u)
  have e := M.setE_zero.2 hs
  rw [show M.tfV h L = (M.tree h L).filter (M.frk h L) by unfold M.tfV; rw [if_pos e], e] at FC
  have c1 := (M.counts hs hne).1
  have FO := hidq (fun f (hf : f ∈ (M.tree h L).filter (M.frk h L)) s (h2 : s = 0 ∨ s = 1) => M.fork_of hs hf h2)
  have FK := hidq (fun B b c m (D : M.Dn h L n B b c m) (hd : M.dep m ≠ h) => D.fork hd)
  generalize (M.tree h L).filter (M.frk h L) = F at *
  obtain ⟨ao, cap, rfl, -⟩ := us_view hu
  have hB0 := Below.refl w.heap.size w
  have U0 := hu
  have hli : ¬ (30 : Int) < L.length := by omega
  have hl0 : ¬ (L.length : Int) = 0 := fun e => hne (List.eq_nil_of_length_eq_zero (by omega))
  have hl1 : ((L.length : Int) == 0) = false := by rw [beq_eq_false_iff_ne]; exact hl0
  have hFl : F.length ≤ 30 := by omega
  have hw : IntKind.i64.wrap ((L.length : Int) - 1) = F.length := by rw [IntKind.wrap_i64]; omega
  have T1 := hidq trivial
  have T2 := hidq trivial
  clear e c1 hne hu
  go_enter Try.func4, Try.ntmps4
  go_wp2_with (first | (go_at_call 9; clear T1; refine (live9_any _).mono ?_; rintro e w1 ⟨rfl, hb1⟩; have U1 := (U0.below hb1); clear U0; have hB1 := below_trans hB0 hb1) | (go_at_call 16; clear T2; refine (FC.out _ _ U1).mono ?_; rintro e w2 ⟨x, rfl, X2, hb2⟩; have U2 := (U1.below hb2); clear U1; have hB2 := below_trans hB1 hb2; obtain ⟨aX2, cX2, rfl, -, vX2⟩ := us_view X2))
  go_loopw [57] (fun i wr => ∃ (j : Nat), j ≤ F.length ∧ i = .int .i64 j ∧ Below w2.heap.size w2 wr) (fun i _ => F.length - (intOf i).toNat)
  case atStart => exact ⟨0, by omega, rfl, Below.refl _ _⟩
  case round =>
    obtain ⟨j, hj, rfl, hb⟩ := hrel
    have BX := hidq hb
    by_cases hjn : j < F.length
    · have hji : (j : Int) < F.length := by omega
      obtain ⟨bF, oF, rfl, -⟩ := vX2 (by omega)
      have yc := (X2.below hb).cellAt j hjn
      have hmem : F[j]?.getD 0 ∈ F := by rw [List.getElem?_eq_getElem hjn]; exact List.getElem_mem hjn
      have HY := hidq (FO.out _ hmem)
      generalize F[j]?.getD 0 = y at *
      have hyk := (HY.out 0 (.inl rfl)).1
      have hy0 : 0 ≤ y := by have := (M.ok_of hyk).2.2.1; omega
      have hy1 : y ≤ 18446744073709551615 := by have := M.ok_lt hyk; omega
      clear hb hmem hyk
      go_wp2
      go_loopw [61] (fun i wr => ∃ (q : Nat), q ≤ 2 ∧ i = .int .i64 q ∧ Below w2.heap.size w2 wr) (fun i _ => 2 - (intOf i).toNat)
      case atStart => exact ⟨0, by omega, rfl, BX.out⟩
      case round =>
        obtain ⟨q, hq, rfl, hb⟩ := hrel
        have BB := hidq hb
        clear hb
        by_cases hqn : q < 2
        · have hqi : (q : Int) < 2 := by omega
          obtain ⟨-, e2, e3, e4, e5, e6⟩ := HY.out (q : Int) (by omega)
          have hc0 : 0 ≤ 2 * y + (q : Int) := by omega
          have hc1 : 2 * y + (q : Int) ≤ 18446744073709551615 := by have := M.ok_lt e4; omega
          obtain ⟨c, hc⟩ : ∃ c, 2 * y + (q : Int) = c := ⟨_, rfl⟩
          rw [hc] at e3 e5 e6 hc0 hc1
          clear e4 hc
          go_wp2_with (first | (go_at_call 21; refine (child_any h y q _ hy0 hy1).mono ?_; rw [e2, e3]; rintro e w' ⟨rfl, hw⟩; subst w') | (go_at_call 10; refine (IC.out _ _ c (U2.below BB.out) hc0 hc1).mono ?_; rw [e5, e6]; rintro e w5 ⟨rfl, hb5⟩; have B5 := hidq (below_trans BB.out hb5); clear hb5))
          go_roundw
          case rel => exact ⟨q + 1, by omega, by go_num, B5.out⟩
          case measure => simp [intOf]; omega
        · obtain rfl : q = 2 := by omega
          have hqi : ¬ ((2 : Nat) : Int) < 2 := by omega
          go_wp2
          go_roundw
          case rel => exact ⟨j + 1, by omega, by go_num, BB.out⟩
          case measure => simp [intOf]; omega
    · obtain rfl : j = F.length := by omega
      have hji : ¬ (F.length : Int) < F.length := by omega
      clear hb
      by_cases hE : M.belE h L n = 0
      · by_cases hp : (M.belV h L n).length = 0
        · have g1 : M.isV h L n = false := by unfold M.isV; rw [hp]; rfl
          have g2 := hE
          have d1 : M.dnE h L n = 4 := by unfold M.dnE; rw [if_pos hE, if_pos hp]
          rw [d1] at EC
          clear hE hp d1
          go_wp2_with (first | (go_at_call 14; refine (EC.out _ _ (U2.below BX.out)).mono ?_; rintro e w6 ⟨rfl, hb6⟩; have B6 := hidq (below_trans BX.out hb6); clear hb6) | (go_at_call 10; refine (IC.out _ _ n (U2.below B6.out) h0 h1).mono ?_; rw [g1, g2]; rintro e w7 ⟨rfl, hb7⟩; have B7 := hidq (below_trans B6.out hb7); clear hb7))
          go_ret
          exact ⟨rfl, below_trans hB2 B7.out⟩
        · have D := M.dn_mk hE hp
          generalize M.belV h L n = B at *
          generalize M.fstL B = b at *
          generalize M.lstL B = c at *
          generalize M.meet (M.p2 h + b) (M.p2 h + c) = m at *
          have HFK := hidq (FK.out _ _ _ _ D)
          obtain ⟨d1, d2, g2, g1⟩ := D.dn_zero
          have mo := D.om
          have mb0 : 0 ≤ m := by have := (M.ok_of mo).2.2.1; omega
          have mb1 : m ≤ 18446744073709551615 := by have := M.ok_lt mo; omega
          have ab2 := M.eBoth_ok D.ok mo
          have ab1 : M.abvV h n m = true := (M.abvV_ok D.ok mo).trans D.anm
          have de1 := M.depV_ok mo
          have de2 := M.eChk_ok mo
          rw [d1, d2] at EC
          clear hE hp d1 d2 D mo
          by_cases hd : M.dep m = h
          · rw [hd] at de1
            clear hd
            go_wp2_with (first | (go_at_call 14; refine (EC.out _ _ (U2.below BX.out)).mono ?_; rintro e w6 ⟨rfl, hb6⟩; have B6 := hidq (below_trans BX.out hb6); clear hb6) | (go_at_call 10; refine (IC.out _ _ n (U2.below B6.out) h0 h1).mono ?_; rw [g1, g2]; rintro e w7 ⟨rfl, hb7⟩; have B7 := hidq (below_trans B6.out hb7); clear hb7) | (go_at_call 22; refine (above_any h n m _ h0 h1 mb0 mb1).mono ?_; rw [ab1, ab2]; rintro e w' ⟨rfl, hw⟩; subst w') | (go_at_call 23; refine (depth_any h m _ mb0 mb1).mono ?_; rw [de1, de2]; rintro e w' ⟨rfl, hw⟩; subst w'))
            go_ret
            exact ⟨rfl, below_trans hB2 B7.out⟩
          · have hin : M.has F m = true := M.has_iff.2 (HFK.out hd)
            have hd2 : (M.dep m == h) = false := by rw [beq_eq_false_iff_ne]; exact hd
            generalize M.dep m = dm at *
            go_wp2_with (first | (go_at_call 14; refine (EC.out _ _ (U2.below BX.out)).mono ?_; rintro e w6 ⟨rfl, hb6⟩; have B6 := hidq (below_trans BX.out hb6); clear hb6) | (go_at_call 10; refine (IC.out _ _ n (U2.below B6.out) h0 h1).mono ?_; rw [g1, g2]; rintro e w7 ⟨rfl, hb7⟩; have B7 := hidq (below_trans B6.out hb7); clear hb7) | (go_at_call 22; refine (above_any h n m _ h0 h1 mb0 mb1).mono ?_; rw [ab1, ab2]; rintro e w' ⟨rfl, hw⟩; subst w') | (go_at_call 23; refine (depth_any h m _ mb0 mb1).mono ?_; rw [de1, de2]; rintro e w' ⟨rfl, hw⟩; subst w') | (go_at_call 24; refine (rin_any _ _ _ _ (X2.below B7.out)).mono ?_; rw [hin]; rintro e w' ⟨rfl, hw⟩; subst w'))
            go_ret
            exact ⟨rfl, below_trans hB2 B7.out⟩
      · have g2 := (M.belV_no hE).2
        have g1 : M.isV h L n = false := by unfold M.isV; rw [(M.belV_no hE).1]; rfl
        have d1 : M.dnE h L n = 1 := by unfold M.dnE; rw [if_neg hE]
        rw [d1] at EC
        clear hE d1
        go_wp2_with (first | (go_at_call 14; refine (EC.out _ _ (U2.below BX.out)).mono ?_; rintro e w6 ⟨rfl, hb6⟩; have B6 := hidq (below_trans BX.out hb6); clear hb6) | (go_at_call 10; refine (IC.out _ _ n (U2.below B6.out) h0 h1).mono ?_; rw [g1, g2]; rintro e w7 ⟨rfl, hb7⟩; have B7 := hidq (below_trans B6.out hb7); clear hb7))
        go_ret
        exact ⟨rfl, below_trans hB2 B7.out⟩
theorem steinerForks_walk (h : Int) (L : List Int) (v : Value) (n : Int) (w : World) (_ : -9223372036854775808 ≤ h) (_ : h ≤ 9223372036854775807) (hu : Us w v L) (h0 : 0 ≤ n) (h1 : n ≤ 18446744073709551615) :
    Calls Try.prog 4 #[.int .i64 h, v, .int .u64 n] w fun e w' => e = .returned (.bool true) ∧ Below w.heap.size w w' := by
  by_cases hl : L.length ≤ 30
  · by_cases hs : M.setB h L = true
    · by_cases h2 : L = []
      · exact steinerForks_no h L v n w hu hl fun _ => h2
      · exact steinerForks_yes h L v n w hu h0 h1 hl hs h2
    · exact steinerForks_no h L v n w hu hl fun e => absurd e hs
  · exact steinerForks_long h L v n w hu hl
end Go.Proofs.Ythmiieiajfghnaa
