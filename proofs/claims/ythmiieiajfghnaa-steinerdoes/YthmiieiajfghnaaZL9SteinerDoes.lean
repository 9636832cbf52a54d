/-
  The law SteinerDoes returns true at every input: whether any node is of any set's tree, how many are, the deepest one above all below one, all forks, and all that hangs, or why not, as the document has it; the set stays as it was. Conditions: the slice holds numbers, the numbers fit their kinds.
-/
import Derived.Test.YthmiieiajfghnaaZO10
import Derived.Test.YthmiieiajfghnaaZO11
import Derived.Test.YthmiieiajfghnaaZO9
import Derived.Test.YthmiieiajfghnaaZOQ
import Derived.Test.YthmiieiajfghnaaZTR
namespace Go.Proofs.Ythmiieiajfghnaa
open Go.RowKit
set_option maxRecDepth 100000 in
set_option maxHeartbeats 4000000 in
theorem steinerDoes_long (h : Int) (L : List Int) (v : Value) (n : Int) (w : World) (hu : Us w v L) (hl : ¬ L.length ≤ 30) :
    Calls Try.prog 3 #[.int .i64 h, v, .int .u64 n] w fun e w' => e = .returned (.bool true) ∧ Below w.heap.size w w' := by
  obtain ⟨ao, cap, rfl, -⟩ := us_view hu
  have hB0 := Below.refl w.heap.size w
  have hli : (30 : Int) < L.length := by omega
  clear hl hu
  have T1 := hidq trivial
  go_enter Try.func3, Try.ntmps3
  go_wp2_with (first | (go_at_call 9; clear T1; refine (live9_any _).mono ?_; rintro e w1 ⟨rfl, hb1⟩; have hB1 := below_trans hB0 hb1))
  go_ret
  exact ⟨rfl, hB1⟩
set_option maxRecDepth 100000 in
set_option maxHeartbeats 8000000 in
theorem steinerDoes_in (h : Int) (L : List Int) (v : Value) (n : Int) (w : World) (hu : Us w v L) (h0 : 0 ≤ n) (h1 : n ≤ 18446744073709551615) (hl : L.length ≤ 30) :
    Calls Try.prog 3 #[.int .i64 h, v, .int .u64 n] w fun e w' => e = .returned (.bool true) ∧ Below w.heap.size w w' := by
  obtain ⟨i0, hi, hz0, hz1, hz2⟩ := info_parts Try.infoU64
  obtain ⟨ao, cap, rfl, -⟩ := us_view hu
  have hB0 := Below.refl w.heap.size w
  have U0 := hu
  have hli : ¬ (30 : Int) < L.length := by omega
  have AC := hidq (fun W v (u : Us W v L) => stIs_any h L v n W u h0 h1)
  have BC := hidq (fun W v (u : Us W v L) => rstIs_any h L v n W u h0 h1)
  have CC := hidq (fun W v (u : Us W v L) => stMany_any h L v W u)
  have DC := hidq (fun W v (u : Us W v L) => rstMany_any h L v W u)
  have EC := hidq (fun W v (u : Us W v L) => stDown_any h L v n W u h0 h1)
  have GC := hidq (fun W v (u : Us W v L) => rstDown_any h L v n W u h0 h1)
  have HC := hidq (fun W v (u : Us W v L) => stForks_any h L v W u)
  have IC := hidq (fun W v (u : Us W v L) => rstForks_any h L v W u)
  have JC := hidq (fun W v (u : Us W v L) => stHang_any h L v W u)
  have KC := hidq (fun W v (u : Us W v L) => rstHang_any h L v W u)
  generalize M.isV h L n = r1 at *
  generalize M.belE h L n = r2 at *
  generalize M.tmV h L = r3 at *
  generalize M.setE h L = r4 at *
  generalize M.dnV h L n = r5 at *
  generalize M.dnE h L n = r6 at *
  generalize M.tfV h L = F at *
  generalize M.thV h L = H at *
  clear hu h0 h1
  have T1 := hidq trivial
  have T2 := hidq trivial
  have T3 := hidq trivial
  have T4 := hidq trivial
  have T5 := hidq trivial
  have T6 := hidq trivial
  have T7 := hidq trivial
  have T8 := hidq trivial
  have T9 := hidq trivial
  have T10 := hidq trivial
  have T11 := hidq trivial
  have T12 := hidq trivial
  have T13 := hidq trivial
  have T14 := hidq trivial
  have T15 := hidq trivial
  go_enter Try.func3, Try.ntmps3
  go_wp2_with (first | (go_at_call 9; clear T1; refine (live9_any _).mono ?_; rintro e w1 ⟨rfl, hb1⟩; have U1 := (U0.below hb1); clear U0; have hB1 := below_trans hB0 hb1) | (at_builtin; clear T2; refine wpList_append_qu rfl _ _ 22 rfl w1.heap.size 23 i0 Try.underlying22 hi hz0 hz1 hz2 _ [] rfl (Qu.nil _ _ _ _) _ L rfl U1 (by simp; omega) (Nat.le_refl _) ?_; intro x2 w2 q2 g2 n2; have hb2 : Below w1.heap.size w1 w2 := (Below.refl _ w1).grown g2 (Nat.le_refl _) (fun k hk => by cases hk); have U2 := U1.below hb2; clear U1; have W2 := q2.us; rw [List.nil_append] at W2; obtain ⟨aw2, cw2, rfl, -⟩ := us_view W2; have hB2 := below_trans hB1 hb2; clear q2 g2 n2) | (go_at_call 10; clear T3; refine (AC.out _ _ U2).mono ?_; rintro e w3 ⟨rfl, hb3⟩; have U3 := (U2.below hb3); clear U2; have W3 := (W2.below hb3); clear W2; have hB3 := below_trans hB2 hb3) | (go_at_call 11; clear T4; refine (BC.out _ _ U3).mono ?_; rintro e w4 ⟨rfl, hb4⟩; have U4 := (U3.below hb4); clear U3; have W4 := (W3.below hb4); clear W3; have hB4 := below_trans hB3 hb4) | (go_at_call 12; clear T5; refine (CC.out _ _ U4).mono ?_; rintro e w5 ⟨rfl, hb5⟩; have U5 := (U4.below hb5); clear U4; have W5 := (W4.below hb5); clear W4; have hB5 := below_trans hB4 hb5) | (go_at_call 13; clear T6; refine (DC.out _ _ U5).mono ?_; rintro e w6 ⟨rfl, hb6⟩; have U6 := (U5.below hb6); clear U5; have W6 := (W5.below hb6); clear W5; have hB6 := below_trans hB5 hb6) | (go_at_call 14; clear T7; refine (EC.out _ _ U6).mono ?_; rintro e w7 ⟨rfl, hb7⟩; have U7 := (U6.below hb7); clear U6; have W7 := (W6.below hb7); clear W6; have hB7 := below_trans hB6 hb7) | (go_at_call 15; clear T8; refine (GC.out _ _ U7).mono ?_; rintro e w8 ⟨rfl, hb8⟩; have U8 := (U7.below hb8); clear U7; have W8 := (W7.below hb8); clear W7; have hB8 := below_trans hB7 hb8) | (go_at_call 16; clear T9; refine (HC.out _ _ U8).mono ?_; rintro e w9 ⟨x, rfl, u, hb9⟩; have U9 := (U8.below hb9); clear U8; have W9 := (W8.below hb9); clear W8; have X9 := (u); have hB9 := below_trans hB8 hb9; obtain ⟨aX9, cX9, rfl, -, vX9⟩ := us_view X9) | (go_at_call 17; clear T10; refine (IC.out _ _ U9).mono ?_; rintro e w10 ⟨y, rfl, u, hb10⟩; have U10 := (U9.below hb10); clear U9; have W10 := (W9.below hb10); clear W9; have X10 := (X9.below hb10); clear X9; have Y10 := (u); have hB10 := below_trans hB9 hb10; obtain ⟨aY10, cY10, rfl, -, vY10⟩ := us_view Y10) | (go_at_call 18; clear T11; refine (JC.out _ _ U10).mono ?_; rintro e w11 ⟨z, rfl, u, hb11⟩; have U11 := (U10.below hb11); clear U10; have W11 := (W10.below hb11); clear W10; have X11 := (X10.below hb11); clear X10; have Y11 := (Y10.below hb11); clear Y10; have Z11 := (u); have hB11 := below_trans hB10 hb11; obtain ⟨aZ11, cZ11, rfl, -, vZ11⟩ := us_view Z11) | (go_at_call 19; clear T12; refine (KC.out _ _ U11).mono ?_; rintro e w12 ⟨p, rfl, u, hb12⟩; have U12 := (U11.below hb12); clear U11; have W12 := (W11.below hb12); clear W11; have X12 := (X11.below hb12); clear X11; have Y12 := (Y11.below hb12); clear Y11; have Z12 := (Z11.below hb12); clear Z11; have V12 := (u); have hB12 := below_trans hB11 hb12; obtain ⟨aV12, cV12, rfl, -, vV12⟩ := us_view V12) | (go_at_call 20; clear T13; refine (same_yes F _ _ _ X12 Y12).mono ?_; rintro e w13 ⟨rfl, hb13⟩; have U13 := (U12.below hb13); clear U12; have W13 := (W12.below hb13); clear W12; have X13 := (X12.below hb13); clear X12; have Y13 := (Y12.below hb13); clear Y12; have Z13 := (Z12.below hb13); clear Z12; have V13 := (V12.below hb13); clear V12; have hB13 := below_trans hB12 hb13) | (go_at_call 20; clear T14; refine (same_yes H _ _ _ Z13 V13).mono ?_; rintro e w14 ⟨rfl, hb14⟩; have U14 := (U13.below hb14); clear U13; have W14 := (W13.below hb14); clear W13; have X14 := (X13.below hb14); clear X13; have Y14 := (Y13.below hb14); clear Y13; have Z14 := (Z13.below hb14); clear Z13; have V14 := (V13.below hb14); clear V13; have hB14 := below_trans hB13 hb14) | (go_at_call 20; clear T15; refine (same_yes L _ _ _ U14 W14).mono ?_; rintro e w15 ⟨rfl, hb15⟩; have U15 := (U14.below hb15); clear U14; have W15 := (W14.below hb15); clear W14; have X15 := (X14.below hb15); clear X14; have Y15 := (Y14.below hb15); clear Y14; have Z15 := (Z14.below hb15); clear Z14; have V15 := (V14.below hb15); clear V14; have hB15 := below_trans hB14 hb15))
  go_ret
  exact ⟨rfl, hB15⟩
theorem steinerDoes_walk (h : Int) (L : List Int) (v : Value) (n : Int) (w : World) (_ : -9223372036854775808 ≤ h) (_ : h ≤ 9223372036854775807) (hu : Us w v L) (h0 : 0 ≤ n) (h1 : n ≤ 18446744073709551615) :
    Calls Try.prog 3 #[.int .i64 h, v, .int .u64 n] w fun e w' => e = .returned (.bool true) ∧ Below w.heap.size w w' := by
  by_cases hl : L.length ≤ 30
  · exact steinerDoes_in h L v n w hu h0 h1 hl
  · exact steinerDoes_long h L v n w hu hl
end Go.Proofs.Ythmiieiajfghnaa
