/-
  What the document's own Down answers at every input. Conditions: the slice holds numbers that fit.
-/
import Derived.Test.YtmicgojojkkkhaaGreatZO7
import Derived.Test.YtmicgojojkkkhaaGreatZON
import Derived.Test.YtmicgojojkkkhaaGreatZR1
namespace Go.Proofs.YtmicgojojkkkhaaGreat
open Go.RowKit
theorem M.all_take {p : Int → Bool} {B : List Int} {q : Nat} (hq : q < B.length) : (B.take (q + 1)).all p = ((B.take q).all p && p (B[q]?.getD 0)) := by
  rw [take_getD q hq, List.all_append]; simp
set_option maxRecDepth 100000 in
set_option maxHeartbeats 4000000 in
theorem rstDown_any (h : Int) (L : List Int) (v : Value) (n : Int) (w : World) (hu : Us w v L) (h0 : 0 ≤ n) (h1 : n ≤ 18446744073709551615) :
    Calls Tryz.prog 50 #[.int .i64 h, v, .int .u64 n] w fun e w' => e = .returned (.tuple #[.int .u64 (M.dnV h L n), .int .i64 (M.dnE h L n)]) ∧ Below w.heap.size w w' := by
  unfold M.dnV
  by_cases hE : M.belE h L n = 0
  · by_cases hp : (M.belV h L n).length = 0
    · have e : M.dnE h L n = 4 := by unfold M.dnE; rw [if_pos hE, if_pos hp]
      rw [if_neg (by rw [e]; decide), e]
      have hpi : ((M.belV h L n).length : Int) = 0 := by omega
      clear hp
      go_enter Tryz.func50, Tryz.ntmps50
      go_wp2_with (first | (go_at_call 80; refine (rbel_any h L _ n _ hu h0 h1).mono ?_; rintro e w1 ⟨v1, rfl, ho1, hb1⟩; have U1 := hidq (Us.of_own ho1 (fits_big (M.belV_fits).1)); obtain ⟨a1, c1, rfl, -⟩ := us_view U1.out; have B1 := hidq hb1; clear ho1 hb1))
      go_ret2
      exact ⟨rfl, B1.out⟩
    · have e : M.dnE h L n = 0 := by unfold M.dnE; rw [if_pos hE, if_neg hp]
      rw [if_pos e, e]
      have D := M.dn_mk hE hp
      have hbl := (M.belV_fits (h := h) (L := L) (n := n)).2
      generalize hBB : M.belV h L n = B at *
      generalize hbb : M.fstL B = b at *
      generalize hcc : M.lstL B = c at *
      generalize hmm : M.meet (M.p2 h + b) (M.p2 h + c) = m at *
      have s1 := (M.set_of D.set).1
      have s2 := (M.set_of D.set).2.1
      obtain ⟨hh, rfl⟩ := Int.eq_ofNat_of_zero_le (show 0 ≤ h by omega)
      have hlp := D.pos
      have hfx := D.fst
      have gb := D.all b D.mb
      have hp32 := M.p2_32 s2
      have hpp := M.p2_pos (hh : Int)
      have lx2 := M.leafE_yes s1 s2 gb.2.2.2.2.1
      have lx1 := (M.leaf_facts gb.2.2.2.1 lx2).1
      have hx0 : 0 ≤ b := gb.2.2.2.1
      have hx1 : b ≤ 18446744073709551615 := by omega
      have hc0 : 1 ≤ M.p2 hh + b := by omega
      have hc1 : M.p2 hh + b ≤ 18446744073709551615 := by omega
      have hcd : M.dep (M.p2 hh + b) = hh := D.db
      have hpi : ¬ (B.length : Int) = 0 := by omega
      have hpj : ((B.length : Int) == 0) = false := by rw [beq_eq_false_iff_ne]; omega
      have hi0 : (0 : Int) < B.length := by omega
      have T1 := hidq trivial
      have DD := hidq D
      have DE := hidq (D.best_end (k := hh + 1) (by omega))
      have DZ := hidq D.best_zero
      clear D gb hp e hbb hcc hmm
      go_enter Tryz.func50, Tryz.ntmps50
      go_wp2_with (first | (go_at_call 80; refine (rbel_any _ L _ n _ hu h0 h1).mono ?_; rw [hE, hBB]; rintro e w1 ⟨v1, rfl, ho1, hb1⟩; have u1 := Us.of_own ho1 (by rw [← hBB]; exact fits_big (M.belV_fits).1); obtain ⟨a1, cp1, rfl, -, hv1⟩ := us_view u1; obtain ⟨bb, ob, rfl, -⟩ := hv1 hlp; have x1 := u1.cellAt 0 hlp; rw [hfx] at x1; simp only [Nat.add_zero] at x1; have U1 := hidq u1; have B1 := hidq hb1; clear ho1 hb1 hv1 u1) | (go_at_call 34; clear T1; refine (rleaf_any _ b _ hx0 hx1).mono ?_; rw [lx1, lx2]; rintro e w' ⟨rfl, hw⟩; subst w') | (go_at_call 35; refine (chain_any hh _ _ hc0 hc1 hcd).mono ?_; rintro e w2 ⟨g2, cap2, rfl, ho2, hb2⟩; have HO2 := hidq ho2; have U2 := hidq (U1.out.below hb2); have B2 := hidq (below_trans B1.out hb2); clear ho2 hb2))
      generalize hBl : B.length = N at *
      have HBl := hidq hBl
      clear hBl
      have hg2 := (HO2.out.lt g2 rfl).2
      go_loopw [45, 10] (fun i x wr => ∃ (k : Nat), k ≤ hh + 1 ∧ i = .int .i64 k ∧ x = .int .u64 (M.Dn.best hh n b m k) ∧ Below w2.heap.size w2 wr) (fun i _ _ => hh + 1 - (intOf i).toNat)
      case atStart => exact ⟨0, by omega, rfl, by rw [DZ.out], Below.refl _ _⟩
      case round =>
        obtain ⟨k, hk, rfl, rfl, hb⟩ := hrel
        by_cases hkn : k < hh + 1
        · have hki : (k : Int) < (hh : Int) + 1 := by omega
          have xc := (hb.cell (p := ⟨g2, k, none⟩) hg2).trans (own_cell HO2.out k (by omega))
          rw [M.chainL_at _ _ (by rw [hcd]; omega)] at xc
          simp only [Option.getD_some] at xc
          obtain ⟨xo, xa⟩ := DD.out.chain_ok (k := k) (by omega)
          have hAll := hidq ((DD.out.above xo).trans xa)
          have hbb := DD.out.best_bd k
          have HBY := hidq (fun hc => DD.out.best_yes (k := k) hc)
          have HBN := hidq (fun hc => DD.out.best_no (k := k) hc)
          have hxl := M.ok_lt xo
          have hxp := (M.ok_of xo).2.2.1
          have BX := hidq hb
          generalize hxx : M.up (M.p2 hh + b) k = x at *
          generalize hbe : M.Dn.best hh n b m k = best at *
          clear hb hxx xo xa hbe
          go_wp2
          go_loopw [51, 15] (fun i r wr => ∃ (q : Nat), q ≤ N ∧ i = .int .i64 q ∧ r = .bool ((B.take q).all fun i => M.abv x (M.p2 hh + i)) ∧ Below w2.heap.size w2 wr) (fun i _ _ => N - (intOf i).toNat)
          case atStart => exact ⟨0, by omega, rfl, rfl, BX.out⟩
          case round =>
            obtain ⟨q, hq, rfl, rfl, hb⟩ := hrel
            have BB := hidq hb
            by_cases hqn : q < N
            · have hqi : (q : Int) < N := by omega
              have hql : q < B.length := by rw [HBl.out]; exact hqn
              have yc := (U2.out.below hb).cellAt q hql
              have HT := hidq (M.all_take (p := fun i => M.abv x (M.p2 hh + i)) hql)
              have gy := DD.out.all (B[q]?.getD 0) (by rw [List.getElem?_eq_getElem hql]; exact List.getElem_mem hql)
              generalize B[q]?.getD 0 = y at *
              have ly2 := M.leafE_yes s1 s2 gy.2.2.2.2.1
              obtain ⟨ly1, oy, -⟩ := M.leaf_facts gy.2.2.2.1 ly2
              have hy0 : 0 ≤ y := gy.2.2.2.1
              have hy1 : y ≤ 18446744073709551615 := by omega
              have hz0 : 1 ≤ M.p2 hh + y := by omega
              have hz1 : M.p2 hh + y ≤ 18446744073709551615 := by omega
              clear hb gy oy hql
              cases hr : (B.take q).all fun i => M.abv x (M.p2 hh + i) with
              | false =>
                rw [hr, Bool.false_and] at HT
                go_wp2_with (first | (go_at_call 34; refine (rleaf_any _ y _ hy0 hy1).mono ?_; rw [ly1, ly2]; rintro e w' ⟨rfl, hw⟩; subst w'))
                go_roundw
                case rel => exact ⟨q + 1, by omega, by go_num, by rw [HT.out], BB.out⟩
                case measure => simp [intOf]; omega
              | true =>
                rw [hr, Bool.true_and] at HT
                obtain ⟨r, hrr⟩ : ∃ r, M.abv x (M.p2 hh + y) = r := ⟨_, rfl⟩
                go_wp2_with (first | (go_at_call 34; refine (rleaf_any _ y _ hy0 hy1).mono ?_; rw [ly1, ly2]; rintro e w' ⟨rfl, hw⟩; subst w') | (go_at_call 61; refine (is_any x _ _ hz0 hz1).mono ?_; rintro e w4 ⟨rfl, hb4⟩; have BB4 := hidq (below_trans BB.out hb4); clear hb4))
                go_roundw
                case rel => exact ⟨q + 1, by omega, by go_num, by rw [HT.out, hrr], BB4.out⟩
                case measure => simp [intOf]; omega
            · obtain rfl : q = N := by omega
              have hqi : ¬ (q : Int) < q := by omega
              have hrA : ((B.take q).all fun i => M.abv x (M.p2 hh + i)) = decide ((k : Int) ≤ M.dep m) := by
                rw [← HBl.out, List.take_length]; exact hAll.out
              rw [hrA]
              clear hb hAll hrA
              by_cases hkm : (k : Int) ≤ M.dep m
              · have HB := hidq (HBY.out hkm)
                rw [decide_eq_true hkm]
                by_cases hlt : best < x
                · rw [if_pos hlt] at HB
                  clear HBY HBN hkm
                  go_wp2
                  go_roundw
                  case rel => exact ⟨k + 1, by omega, by go_num, by rw [HB.out], BB.out⟩
                  case measure => simp [intOf]; omega
                · rw [if_neg hlt] at HB
                  clear HBY HBN hkm
                  go_wp2
                  go_roundw
                  case rel => exact ⟨k + 1, by omega, by go_num, by rw [HB.out], BB.out⟩
                  case measure => simp [intOf]; omega
              · have HB := hidq (HBN.out (by omega))
                rw [decide_eq_false hkm]
                clear HBY HBN hkm
                go_wp2
                go_roundw
                case rel => exact ⟨k + 1, by omega, by go_num, by rw [HB.out], BB.out⟩
                case measure => simp [intOf]; omega
        · obtain rfl : k = hh + 1 := by omega
          have hki : ¬ ((hh + 1 : Nat) : Int) < (hh : Int) + 1 := by omega
          have BX := hidq hb
          rw [DE.out]
          clear hb
          go_wp2
          go_ret2
          exact ⟨rfl, below_trans B2.out BX.out⟩
  · have e : M.dnE h L n = 1 := by unfold M.dnE; rw [if_neg hE]
    have e2 := (M.belV_no hE).2
    rw [if_neg (by rw [e]; decide), e]
    clear hE
    go_enter Tryz.func50, Tryz.ntmps50
    go_wp2_with (first | (go_at_call 80; refine (rbel_any h L _ n _ hu h0 h1).mono ?_; rintro e w1 ⟨v1, rfl, ho1, hb1⟩; have U1 := hidq (Us.of_own ho1 (fits_big (M.belV_fits).1)); obtain ⟨a1, c1, rfl, -⟩ := us_view U1.out; have B1 := hidq hb1; clear ho1 hb1))
    go_ret2
    exact ⟨rfl, B1.out⟩
end Go.Proofs.YtmicgojojkkkhaaGreat
