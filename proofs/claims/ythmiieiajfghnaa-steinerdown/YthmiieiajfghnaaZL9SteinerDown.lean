/-
  The law SteinerDown returns true at every input: the deepest node above all below one is the same from there; a set with one leaf more has no deeper one. Conditions: the slice holds numbers, the numbers fit their kinds.
-/
import Derived.Test.YthmiieiajfghnaaZO10
import Derived.Test.YthmiieiajfghnaaZO11
import Derived.Test.YthmiieiajfghnaaZO9
import Derived.Test.YthmiieiajfghnaaZOQ
import Derived.Test.YthmiieiajfghnaaZTR
namespace Go.Proofs.Ythmiieiajfghnaa
open Go.RowKit
set_option maxRecDepth 100000 in
set_option maxHeartbeats 4000000 in
theorem steinerDown_long (h : Int) (L : List Int) (v : Value) (n i : Int) (w : World) (hu : Us w v L) (hl : ¬ L.length ≤ 30) :
    Calls Try.prog 7 #[.int .i64 h, v, .int .u64 n, .int .u64 i] w fun e w' => e = .returned (.bool true) ∧ Below w.heap.size w w' := by
  obtain ⟨ao, cap, rfl, -⟩ := us_view hu
  have hB0 := Below.refl w.heap.size w
  have hli : (30 : Int) < L.length := by omega
  clear hl hu
  have T1 := hidq trivial
  go_enter Try.func7, Try.ntmps7
  go_wp2_with (first | (go_at_call 9; clear T1; refine (live9_any _).mono ?_; rintro e w1 ⟨rfl, hb1⟩; have hB1 := below_trans hB0 hb1))
  go_ret
  exact ⟨rfl, hB1⟩
set_option maxRecDepth 100000 in
set_option maxHeartbeats 4000000 in
theorem steinerDown_no (h : Int) (L : List Int) (v : Value) (n i : Int) (w : World) (hu : Us w v L) (h0 : 0 ≤ n) (h1 : n ≤ 18446744073709551615) (_ : 0 ≤ i) (_ : i ≤ 18446744073709551615) (hl : L.length ≤ 30) (hd : ¬ M.dnE h L n = 0) :
    Calls Try.prog 7 #[.int .i64 h, v, .int .u64 n, .int .u64 i] w fun e w' => e = .returned (.bool true) ∧ Below w.heap.size w w' := by
  obtain ⟨ao, cap, rfl, -⟩ := us_view hu
  have hB0 := Below.refl w.heap.size w
  have U0 := hu
  have hli : ¬ (30 : Int) < L.length := by omega
  have EC := hidq (fun W v (u : Us W v L) => stDown_any h L v n W u h0 h1)
  have e : M.dnV h L n = 0 := by unfold M.dnV; rw [if_neg hd]
  rw [e] at EC
  have hdi : (M.dnE h L n == 0) = false := by rw [beq_eq_false_iff_ne]; exact hd
  generalize M.dnE h L n = r at *
  clear hu hl e h0 h1
  have T1 := hidq trivial
  have T2 := hidq trivial
  go_enter Try.func7, Try.ntmps7
  go_wp2_with (first | (go_at_call 9; clear T1; refine (live9_any _).mono ?_; rintro e w1 ⟨rfl, hb1⟩; have U1 := (U0.below hb1); clear U0; have hB1 := below_trans hB0 hb1) | (go_at_call 14; clear T2; refine (EC.out _ _ U1).mono ?_; rintro e w2 ⟨rfl, hb2⟩; have U2 := (U1.below hb2); clear U1; have hB2 := below_trans hB1 hb2))
  go_ret
  exact ⟨rfl, hB2⟩
set_option maxRecDepth 100000 in
set_option maxHeartbeats 4000000 in
theorem steinerDown_some (h : Int) (L : List Int) (v : Value) (n i : Int) (w : World) (hu : Us w v L) (h0 : 0 ≤ n) (h1 : n ≤ 18446744073709551615) (h2 : 0 ≤ i) (h3 : i ≤ 18446744073709551615) (hl : L.length ≤ 30) (hE : M.belE h L n = 0) (hp : ¬ (M.belV h L n).length = 0) (hw : ¬ M.withE h L i = 0) :
    Calls Try.prog 7 #[.int .i64 h, v, .int .u64 n, .int .u64 i] w fun e w' => e = .returned (.bool true) ∧ Below w.heap.size w w' := by
  obtain ⟨ao, cap, rfl, -⟩ := us_view hu
  have hB0 := Below.refl w.heap.size w
  have U0 := hu
  have hli : ¬ (30 : Int) < L.length := by omega
  have D := M.dn_mk hE hp
  generalize hBB : M.belV h L n = B at *
  generalize hmm : M.meet (M.p2 h + M.fstL B) (M.p2 h + M.lstL B) = m at *
  have mo := D.om
  have mb0 : 0 ≤ m := by have := (M.ok_of mo).2.2.1; omega
  have mb1 : m ≤ 18446744073709551615 := by have := M.ok_lt mo; omega
  have EC := hidq (fun W v (u : Us W v L) => stDown_any h L v n W u h0 h1)
  have FC := hidq (fun W v (u : Us W v L) => stDown_any h L v m W u mb0 mb1)
  have BC := hidq (fun W v (u : Us W v L) => bel_any h L v n W u h0 h1)
  have CC := hidq (fun W v (u : Us W v L) => bel_any h L v m W u mb0 mb1)
  have HF := hidq (show ∀ x ∈ B, 0 ≤ x ∧ x ≤ 18446744073709551615 by rw [← hBB]; exact fits_big M.belV_fits.1)
  rw [D.dn_zero.1, D.dn_zero.2.1] at EC
  rw [D.again.1, D.again.2] at FC
  rw [hE, hBB] at BC
  rw [D.bel_again.1, D.bel_again.2] at CC
  have WC := hidq (fun W v (u : Us W v L) => with_any h L v i W u h2 h3)
  have HG := hidq (fits_big (M.withV_fits (h := h) (L := L) (i := i) h2).1)
  have hdi : (M.withE h L i == 0) = false := by rw [beq_eq_false_iff_ne]; exact hw
  generalize M.withE h L i = r at *
  generalize M.withV h L i = G at *
  clear hu hl h0 h1 h2 h3 hE hp hmm hBB D mo
  have T1 := hidq trivial
  have T2 := hidq trivial
  have T3 := hidq trivial
  have T4 := hidq trivial
  have T5 := hidq trivial
  have T6 := hidq trivial
  have T7 := hidq trivial
  have T8 := hidq trivial
  go_enter Try.func7, Try.ntmps7
  go_wp2_with (first | (go_at_call 9; clear T1; refine (live9_any _).mono ?_; rintro e w1 ⟨rfl, hb1⟩; have U1 := (U0.below hb1); clear U0; have hB1 := below_trans hB0 hb1) | (go_at_call 14; clear T2; refine (EC.out _ _ U1).mono ?_; rintro e w2 ⟨rfl, hb2⟩; have U2 := (U1.below hb2); clear U1; have hB2 := below_trans hB1 hb2) | (go_at_call 14; clear T3; refine (FC.out _ _ U2).mono ?_; rintro e w3 ⟨rfl, hb3⟩; have U3 := (U2.below hb3); clear U2; have hB3 := below_trans hB2 hb3) | (go_at_call 27; clear T4; refine (BC.out _ _ U3).mono ?_; rintro e w4 ⟨x, rfl, ho, hb4⟩; have U4 := (U3.below hb4); clear U3; have X4 := (Us.of_own ho HF.out); have hB4 := below_trans hB3 hb4; obtain ⟨aX4, cX4, rfl, -, vX4⟩ := us_view X4; clear ho) | (go_at_call 27; clear T5; refine (CC.out _ _ U4).mono ?_; rintro e w5 ⟨y, rfl, ho, hb5⟩; have U5 := (U4.below hb5); clear U4; have X5 := (X4.below hb5); clear X4; have Y5 := (Us.of_own ho HF.out); have hB5 := below_trans hB4 hb5; obtain ⟨aY5, cY5, rfl, -, vY5⟩ := us_view Y5; clear ho) | (go_at_call 20; clear T6; refine (same_yes B _ _ _ X5 Y5).mono ?_; rintro e w6 ⟨rfl, hb6⟩; have U6 := (U5.below hb6); clear U5; have X6 := (X5.below hb6); clear X5; have Y6 := (Y5.below hb6); clear Y5; have hB6 := below_trans hB5 hb6) | (go_at_call 28; clear T7; refine (WC.out _ _ U6).mono ?_; rintro e w7 ⟨z, rfl, ho, hb7⟩; have U7 := (U6.below hb7); clear U6; have X7 := (X6.below hb7); clear X6; have Y7 := (Y6.below hb7); clear Y6; have Z7 := (Us.of_own ho HG.out); have hB7 := below_trans hB6 hb7; obtain ⟨aZ7, cZ7, rfl, -, vZ7⟩ := us_view Z7; clear ho))
  go_ret
  exact ⟨rfl, hB7⟩
set_option maxRecDepth 100000 in
set_option maxHeartbeats 4000000 in
theorem steinerDown_more (h : Int) (L : List Int) (v : Value) (n i : Int) (w : World) (hu : Us w v L) (h0 : 0 ≤ n) (h1 : n ≤ 18446744073709551615) (h2 : 0 ≤ i) (h3 : i ≤ 18446744073709551615) (hl : L.length ≤ 30) (hE : M.belE h L n = 0) (hp : ¬ (M.belV h L n).length = 0) (hw : M.withE h L i = 0) :
    Calls Try.prog 7 #[.int .i64 h, v, .int .u64 n, .int .u64 i] w fun e w' => e = .returned (.bool true) ∧ Below w.heap.size w w' := by
  obtain ⟨ao, cap, rfl, -⟩ := us_view hu
  have hB0 := Below.refl w.heap.size w
  have U0 := hu
  have hli : ¬ (30 : Int) < L.length := by omega
  have D := M.dn_mk hE hp
  generalize hBB : M.belV h L n = B at *
  generalize hmm : M.meet (M.p2 h + M.fstL B) (M.p2 h + M.lstL B) = m at *
  have mo := D.om
  have mb0 : 0 ≤ m := by have := (M.ok_of mo).2.2.1; omega
  have mb1 : m ≤ 18446744073709551615 := by have := M.ok_lt mo; omega
  have EC := hidq (fun W v (u : Us W v L) => stDown_any h L v n W u h0 h1)
  have FC := hidq (fun W v (u : Us W v L) => stDown_any h L v m W u mb0 mb1)
  have BC := hidq (fun W v (u : Us W v L) => bel_any h L v n W u h0 h1)
  have CC := hidq (fun W v (u : Us W v L) => bel_any h L v m W u mb0 mb1)
  have HF := hidq (show ∀ x ∈ B, 0 ≤ x ∧ x ≤ 18446744073709551615 by rw [← hBB]; exact fits_big M.belV_fits.1)
  rw [D.dn_zero.1, D.dn_zero.2.1] at EC
  rw [D.again.1, D.again.2] at FC
  rw [hE, hBB] at BC
  rw [D.bel_again.1, D.bel_again.2] at CC
  have WC := hidq (fun W v (u : Us W v L) => with_any h L v i W u h2 h3)
  have HG := hidq (fits_big (M.withV_fits (h := h) (L := L) (i := i) h2).1)
  obtain ⟨c, k1, k2, k3, k4⟩ := D.more h2 hw (by omega)
  have GC := hidq (fun W v (u : Us W v (M.withL L i)) => stDown_any h (M.withL L i) v n W u h0 h1)
  rw [k1, k2] at GC
  rw [hw, M.withV_yes hw] at WC
  rw [M.withV_yes hw] at HG
  have cb0 : 0 ≤ c := by have := (M.ok_of k3).2.2.1; omega
  have cb1 : c ≤ 18446744073709551615 := by have := M.ok_lt k3; omega
  have ab1 := M.eBoth_ok k3 mo
  have ab2 : M.abvV h c m = true := (M.abvV_ok k3 mo).trans k4
  generalize M.withL L i = G at *
  clear hu hl h0 h1 h2 h3 hE hp hmm hBB D mo hw k1 k2 k3 k4
  have T1 := hidq trivial
  have T2 := hidq trivial
  have T3 := hidq trivial
  have T4 := hidq trivial
  have T5 := hidq trivial
  have T6 := hidq trivial
  have T7 := hidq trivial
  have T8 := hidq trivial
  go_enter Try.func7, Try.ntmps7
  go_wp2_with (first | (go_at_call 9; clear T1; refine (live9_any _).mono ?_; rintro e w1 ⟨rfl, hb1⟩; have U1 := (U0.below hb1); clear U0; have hB1 := below_trans hB0 hb1) | (go_at_call 14; clear T2; refine (EC.out _ _ U1).mono ?_; rintro e w2 ⟨rfl, hb2⟩; have U2 := (U1.below hb2); clear U1; have hB2 := below_trans hB1 hb2) | (go_at_call 14; clear T3; refine (FC.out _ _ U2).mono ?_; rintro e w3 ⟨rfl, hb3⟩; have U3 := (U2.below hb3); clear U2; have hB3 := below_trans hB2 hb3) | (go_at_call 27; clear T4; refine (BC.out _ _ U3).mono ?_; rintro e w4 ⟨x, rfl, ho, hb4⟩; have U4 := (U3.below hb4); clear U3; have X4 := (Us.of_own ho HF.out); have hB4 := below_trans hB3 hb4; obtain ⟨aX4, cX4, rfl, -, vX4⟩ := us_view X4; clear ho) | (go_at_call 27; clear T5; refine (CC.out _ _ U4).mono ?_; rintro e w5 ⟨y, rfl, ho, hb5⟩; have U5 := (U4.below hb5); clear U4; have X5 := (X4.below hb5); clear X4; have Y5 := (Us.of_own ho HF.out); have hB5 := below_trans hB4 hb5; obtain ⟨aY5, cY5, rfl, -, vY5⟩ := us_view Y5; clear ho) | (go_at_call 20; clear T6; refine (same_yes B _ _ _ X5 Y5).mono ?_; rintro e w6 ⟨rfl, hb6⟩; have U6 := (U5.below hb6); clear U5; have X6 := (X5.below hb6); clear X5; have Y6 := (Y5.below hb6); clear Y5; have hB6 := below_trans hB5 hb6) | (go_at_call 28; clear T7; refine (WC.out _ _ U6).mono ?_; rintro e w7 ⟨z, rfl, ho, hb7⟩; have U7 := (U6.below hb7); clear U6; have X7 := (X6.below hb7); clear X6; have Y7 := (Y6.below hb7); clear Y6; have Z7 := (Us.of_own ho HG.out); have hB7 := below_trans hB6 hb7; obtain ⟨aZ7, cZ7, rfl, -, vZ7⟩ := us_view Z7; clear ho) | (go_at_call 14; clear T8; refine (GC.out _ _ Z7).mono ?_; rintro e w8 ⟨rfl, hb8⟩; have U8 := (U7.below hb8); clear U7; have X8 := (X7.below hb8); clear X7; have Y8 := (Y7.below hb8); clear Y7; have Z8 := (Z7.below hb8); clear Z7; have hB8 := below_trans hB7 hb8) | (go_at_call 22; refine (above_any h c m _ cb0 cb1 mb0 mb1).mono ?_; rintro e w' ⟨rfl, hw⟩; subst w'))
  go_ret
  exact ⟨rfl, hB8⟩
theorem steinerDown_walk (h : Int) (L : List Int) (v : Value) (n i : Int) (w : World) (_ : -9223372036854775808 ≤ h) (_ : h ≤ 9223372036854775807) (hu : Us w v L) (h0 : 0 ≤ n) (h1 : n ≤ 18446744073709551615) (h2 : 0 ≤ i) (h3 : i ≤ 18446744073709551615) :
    Calls Try.prog 7 #[.int .i64 h, v, .int .u64 n, .int .u64 i] w fun e w' => e = .returned (.bool true) ∧ Below w.heap.size w w' := by
  by_cases hl : L.length ≤ 30
  · by_cases hd : M.dnE h L n = 0
    · have hx : M.belE h L n = 0 ∧ ¬ (M.belV h L n).length = 0 := by
        unfold M.dnE at hd
        by_cases hE : M.belE h L n = 0
        · rw [if_pos hE] at hd
          by_cases hp : (M.belV h L n).length = 0
          · rw [if_pos hp] at hd; exact absurd hd (by decide)
          · exact ⟨hE, hp⟩
        · rw [if_neg hE] at hd; exact absurd hd (by decide)
      by_cases hw : M.withE h L i = 0
      · exact steinerDown_more h L v n i w hu h0 h1 h2 h3 hl hx.1 hx.2 hw
      · exact steinerDown_some h L v n i w hu h0 h1 h2 h3 hl hx.1 hx.2 hw
    · exact steinerDown_no h L v n i w hu h0 h1 h2 h3 hl hd
  · exact steinerDown_long h L v n i w hu hl
end Go.Proofs.Ythmiieiajfghnaa
