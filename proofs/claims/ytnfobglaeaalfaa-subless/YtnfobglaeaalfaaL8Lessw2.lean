/-
  One way of the law SubLess. Conditions: the numbers fit their kinds.
-/
import Derived.Test.YtnfobglaeaalfaaL8Less0
namespace Go.Proofs.Ytnfobglaeaalfaa
open Go.RowKit
set_option maxRecDepth 100000 in
set_option maxHeartbeats 4000000 in
theorem subLess_w2n (h I J K L U N : Int) (w : World) (hI : 0 ≤ I ∧ I ≤ 18446744073709551615) (hJ : 0 ≤ J ∧ J ≤ 18446744073709551615) (hK : 0 ≤ K ∧ K ≤ 18446744073709551615) (hL : 0 ≤ L ∧ L ≤ 18446744073709551615) (hM : 0 ≤ U ∧ U ≤ 18446744073709551615) (hN : 0 ≤ N ∧ N ≤ 18446744073709551615) (f1 : M.lssB I J K L = true) (f2 : M.lssB K L I J = false) (f3 : M.lssB K L U N = false) (f5 : decide (((I, J) : Int × Int) = (K, L)) = false) (hs : M.subB h I J = false) :
    Calls Try.prog 8 #[.int .i64 h, .agg #[.int .u64 I, .int .u64 J], .agg #[.int .u64 K, .int .u64 L], .agg #[.int .u64 U, .int .u64 N]] w fun e w' => e = .returned (.bool true) ∧ Below w.heap.size w w' := by
  have hq : ∀ W, (Op.equalIn 10000 24 (.agg #[.int .u64 I, .int .u64 J]) (.agg #[.int .u64 K, .int .u64 L])).run Try.prog W = .ok false W := fun W => by rw [eqSub, f5]
  clear f5
  have f0 : M.lssB I J I J = false := M.lss_irr I J
  have E := M.subE_no hs
  clear hs
  have HA := hidq (fun o => (Below.refl _ w).alloc (Nat.le_refl w.heap.size) o)
  have X0 := ((Bi.new w 24 I J).alloc (.cells #[.int .u64 K, .int .u64 L] 24)).alloc (.cells #[.int .u64 U, .int .u64 N] 24)
  obtain ⟨X0a, X0b⟩ := X0.facts
  have Y0 := (Bi.new1 w (.cells #[.int .u64 I, .int .u64 J] 24) 24 K L).alloc (.cells #[.int .u64 U, .int .u64 N] 24)
  obtain ⟨Y0a, Y0b⟩ := Y0.facts
  have Z0 := Bi.new2 w (.cells #[.int .u64 I, .int .u64 J] 24) (.cells #[.int .u64 K, .int .u64 L] 24) 24 U N
  obtain ⟨Z0a, Z0b⟩ := Z0.facts
  have hB0 : Below w.heap.size w (((w.alloc (.cells #[.int .u64 I, .int .u64 J] 24)).alloc (.cells #[.int .u64 K, .int .u64 L] 24)).alloc (.cells #[.int .u64 U, .int .u64 N] 24)) := below_one (below_one (HA.out _))
  clear HA
  have T1 := hidq trivial
  have T2 := hidq trivial
  have T3 := hidq trivial
  have T4 := hidq trivial
  have T5 := hidq trivial
  have T6 := hidq trivial
  have T7 := hidq trivial
  have T8 := hidq trivial
  go_enter Try.func8, Try.ntmps8
  go_wp2_with (first | (go_at_call 10; clear T1; refine (live8_any _).mono ?_; rintro e w1 ⟨rfl, hb1⟩; have X1 := (X0.below hb1); obtain ⟨X1a, X1b⟩ := X1.facts; clear X0 X0a X0b; have Y1 := (Y0.below hb1); obtain ⟨Y1a, Y1b⟩ := Y1.facts; clear Y0 Y0a Y0b; have Z1 := (Z0.below hb1); obtain ⟨Z1a, Z1b⟩ := Z1.facts; clear Z0 Z0a Z0b; have hB1 := below_trans hB0 hb1) | (go_at_call 20; clear T2; refine (less8_any I J I J _ hI hJ hI hJ).mono ?_; rintro e w2 ⟨rfl, hb2⟩; have X2 := (X1.below hb2); obtain ⟨X2a, X2b⟩ := X2.facts; clear X1 X1a X1b; have Y2 := (Y1.below hb2); obtain ⟨Y2a, Y2b⟩ := Y2.facts; clear Y1 Y1a Y1b; have Z2 := (Z1.below hb2); obtain ⟨Z2a, Z2b⟩ := Z2.facts; clear Z1 Z1a Z1b; have hB2 := below_trans hB1 hb2) | (go_at_call 20; clear T3; refine (less8_any I J K L _ hI hJ hK hL).mono ?_; rintro e w3 ⟨rfl, hb3⟩; have X3 := (X2.below hb3); obtain ⟨X3a, X3b⟩ := X3.facts; clear X2 X2a X2b; have Y3 := (Y2.below hb3); obtain ⟨Y3a, Y3b⟩ := Y3.facts; clear Y2 Y2a Y2b; have Z3 := (Z2.below hb3); obtain ⟨Z3a, Z3b⟩ := Z3.facts; clear Z2 Z2a Z2b; have hB3 := below_trans hB2 hb3) | (go_at_call 20; clear T4; refine (less8_any K L I J _ hK hL hI hJ).mono ?_; rintro e w4 ⟨rfl, hb4⟩; have X4 := (X3.below hb4); obtain ⟨X4a, X4b⟩ := X4.facts; clear X3 X3a X3b; have Y4 := (Y3.below hb4); obtain ⟨Y4a, Y4b⟩ := Y4.facts; clear Y3 Y3a Y3b; have Z4 := (Z3.below hb4); obtain ⟨Z4a, Z4b⟩ := Z4.facts; clear Z3 Z3a Z3b; have hB4 := below_trans hB3 hb4) | (go_at_call 20; clear T5; refine (less8_any I J K L _ hI hJ hK hL).mono ?_; rintro e w5 ⟨rfl, hb5⟩; have X5 := (X4.below hb5); obtain ⟨X5a, X5b⟩ := X5.facts; clear X4 X4a X4b; have Y5 := (Y4.below hb5); obtain ⟨Y5a, Y5b⟩ := Y5.facts; clear Y4 Y4a Y4b; have Z5 := (Z4.below hb5); obtain ⟨Z5a, Z5b⟩ := Z5.facts; clear Z4 Z4a Z4b; have hB5 := below_trans hB4 hb5) | (go_at_call 20; clear T6; refine (less8_any I J K L _ hI hJ hK hL).mono ?_; rintro e w6 ⟨rfl, hb6⟩; have X6 := (X5.below hb6); obtain ⟨X6a, X6b⟩ := X6.facts; clear X5 X5a X5b; have Y6 := (Y5.below hb6); obtain ⟨Y6a, Y6b⟩ := Y6.facts; clear Y5 Y5a Y5b; have Z6 := (Z5.below hb6); obtain ⟨Z6a, Z6b⟩ := Z6.facts; clear Z5 Z5a Z5b; have hB6 := below_trans hB5 hb6) | (go_at_call 20; clear T7; refine (less8_any K L U N _ hK hL hM hN).mono ?_; rintro e w7 ⟨rfl, hb7⟩; have X7 := (X6.below hb7); obtain ⟨X7a, X7b⟩ := X7.facts; clear X6 X6a X6b; have Y7 := (Y6.below hb7); obtain ⟨Y7a, Y7b⟩ := Y7.facts; clear Y6 Y6a Y6b; have Z7 := (Z6.below hb7); obtain ⟨Z7a, Z7b⟩ := Z7.facts; clear Z6 Z6a Z6b; have hB7 := below_trans hB6 hb7) | (go_at_call 26; clear T8; refine (split_all h I J _ hI.1 hI.2 hJ.1 hJ.2).mono ?_; rintro e w8 ⟨ao, cap, rfl, _, hb8⟩; have X8 := (X7.below hb8); obtain ⟨X8a, X8b⟩ := X8.facts; clear X7 X7a X7b; have hB8 := below_trans hB7 hb8))
  go_ret
  exact ⟨rfl, hB8⟩
set_option maxRecDepth 100000 in
set_option maxHeartbeats 4000000 in
theorem subLess_w2y (h I J K L U N : Int) (w : World) (hI : 0 ≤ I ∧ I ≤ 18446744073709551615) (hJ : 0 ≤ J ∧ J ≤ 18446744073709551615) (hK : 0 ≤ K ∧ K ≤ 18446744073709551615) (hL : 0 ≤ L ∧ L ≤ 18446744073709551615) (hM : 0 ≤ U ∧ U ≤ 18446744073709551615) (hN : 0 ≤ N ∧ N ≤ 18446744073709551615) (f1 : M.lssB I J K L = true) (f2 : M.lssB K L I J = false) (f3 : M.lssB K L U N = false) (f5 : decide (((I, J) : Int × Int) = (K, L)) = false) (hs : M.subB h I J = true) :
    Calls Try.prog 8 #[.int .i64 h, .agg #[.int .u64 I, .int .u64 J], .agg #[.int .u64 K, .int .u64 L], .agg #[.int .u64 U, .int .u64 N]] w fun e w' => e = .returned (.bool true) ∧ Below w.heap.size w w' := by
  have hq : ∀ W, (Op.equalIn 10000 24 (.agg #[.int .u64 I, .int .u64 J]) (.agg #[.int .u64 K, .int .u64 L])).run Try.prog W = .ok false W := fun W => by rw [eqSub, f5]
  clear f5
  have f0 : M.lssB I J I J = false := M.lss_irr I J
  have E := M.subE_yes hs
  have LA := M.lvA_yes hs
  have PA := M.spA_yes hs
  obtain ⟨-, -, -, g3, -, -⟩ := M.lvs_facts hs
  obtain ⟨p1, p2, p3⟩ := M.spl_facts hs hI.1 hI.2 hJ.1 hJ.2
  have SC := hidq (fun X => split_all h I J X hI.1 hI.2 hJ.1 hJ.2)
  have LC := hidq (fun X => leaves8_all h I J X hI.1 hI.2 hJ.1 hJ.2)
  rw [LA] at LC
  rw [PA] at SC
  clear hs LA PA
  have HP := hidq p1
  have HS := hidq p2
  clear p1 p2
  generalize hS : M.lvs h I J = S at *
  generalize hmv : M.manyV h S = mv at *
  generalize hp : M.spl h I J = P at *
  generalize hn : P.length = n at *
  have HN := hidq hn
  clear hS hp
  have HA := hidq (fun o => (Below.refl _ w).alloc (Nat.le_refl w.heap.size) o)
  have X0 := ((Bi.new w 24 I J).alloc (.cells #[.int .u64 K, .int .u64 L] 24)).alloc (.cells #[.int .u64 U, .int .u64 N] 24)
  obtain ⟨X0a, X0b⟩ := X0.facts
  have Y0 := (Bi.new1 w (.cells #[.int .u64 I, .int .u64 J] 24) 24 K L).alloc (.cells #[.int .u64 U, .int .u64 N] 24)
  obtain ⟨Y0a, Y0b⟩ := Y0.facts
  have Z0 := Bi.new2 w (.cells #[.int .u64 I, .int .u64 J] 24) (.cells #[.int .u64 K, .int .u64 L] 24) 24 U N
  obtain ⟨Z0a, Z0b⟩ := Z0.facts
  have hB0 : Below w.heap.size w (((w.alloc (.cells #[.int .u64 I, .int .u64 J] 24)).alloc (.cells #[.int .u64 K, .int .u64 L] 24)).alloc (.cells #[.int .u64 U, .int .u64 N] 24)) := below_one (below_one (HA.out _))
  clear HA
  have T1 := hidq trivial
  have T2 := hidq trivial
  have T3 := hidq trivial
  have T4 := hidq trivial
  have T5 := hidq trivial
  have T6 := hidq trivial
  have T7 := hidq trivial
  have T8 := hidq trivial
  have T9 := hidq trivial
  have T10 := hidq trivial
  go_enter Try.func8, Try.ntmps8
  go_wp2_with (first | (go_at_call 10; clear T1; refine (live8_any _).mono ?_; rintro e w1 ⟨rfl, hb1⟩; have X1 := (X0.below hb1); obtain ⟨X1a, X1b⟩ := X1.facts; clear X0 X0a X0b; have Y1 := (Y0.below hb1); obtain ⟨Y1a, Y1b⟩ := Y1.facts; clear Y0 Y0a Y0b; have Z1 := (Z0.below hb1); obtain ⟨Z1a, Z1b⟩ := Z1.facts; clear Z0 Z0a Z0b; have hB1 := below_trans hB0 hb1) | (go_at_call 20; clear T2; refine (less8_any I J I J _ hI hJ hI hJ).mono ?_; rintro e w2 ⟨rfl, hb2⟩; have X2 := (X1.below hb2); obtain ⟨X2a, X2b⟩ := X2.facts; clear X1 X1a X1b; have Y2 := (Y1.below hb2); obtain ⟨Y2a, Y2b⟩ := Y2.facts; clear Y1 Y1a Y1b; have Z2 := (Z1.below hb2); obtain ⟨Z2a, Z2b⟩ := Z2.facts; clear Z1 Z1a Z1b; have hB2 := below_trans hB1 hb2) | (go_at_call 20; clear T3; refine (less8_any I J K L _ hI hJ hK hL).mono ?_; rintro e w3 ⟨rfl, hb3⟩; have X3 := (X2.below hb3); obtain ⟨X3a, X3b⟩ := X3.facts; clear X2 X2a X2b; have Y3 := (Y2.below hb3); obtain ⟨Y3a, Y3b⟩ := Y3.facts; clear Y2 Y2a Y2b; have Z3 := (Z2.below hb3); obtain ⟨Z3a, Z3b⟩ := Z3.facts; clear Z2 Z2a Z2b; have hB3 := below_trans hB2 hb3) | (go_at_call 20; clear T4; refine (less8_any K L I J _ hK hL hI hJ).mono ?_; rintro e w4 ⟨rfl, hb4⟩; have X4 := (X3.below hb4); obtain ⟨X4a, X4b⟩ := X4.facts; clear X3 X3a X3b; have Y4 := (Y3.below hb4); obtain ⟨Y4a, Y4b⟩ := Y4.facts; clear Y3 Y3a Y3b; have Z4 := (Z3.below hb4); obtain ⟨Z4a, Z4b⟩ := Z4.facts; clear Z3 Z3a Z3b; have hB4 := below_trans hB3 hb4) | (go_at_call 20; clear T5; refine (less8_any I J K L _ hI hJ hK hL).mono ?_; rintro e w5 ⟨rfl, hb5⟩; have X5 := (X4.below hb5); obtain ⟨X5a, X5b⟩ := X5.facts; clear X4 X4a X4b; have Y5 := (Y4.below hb5); obtain ⟨Y5a, Y5b⟩ := Y5.facts; clear Y4 Y4a Y4b; have Z5 := (Z4.below hb5); obtain ⟨Z5a, Z5b⟩ := Z5.facts; clear Z4 Z4a Z4b; have hB5 := below_trans hB4 hb5) | (go_at_call 20; clear T6; refine (less8_any I J K L _ hI hJ hK hL).mono ?_; rintro e w6 ⟨rfl, hb6⟩; have X6 := (X5.below hb6); obtain ⟨X6a, X6b⟩ := X6.facts; clear X5 X5a X5b; have Y6 := (Y5.below hb6); obtain ⟨Y6a, Y6b⟩ := Y6.facts; clear Y5 Y5a Y5b; have Z6 := (Z5.below hb6); obtain ⟨Z6a, Z6b⟩ := Z6.facts; clear Z5 Z5a Z5b; have hB6 := below_trans hB5 hb6) | (go_at_call 20; clear T7; refine (less8_any K L U N _ hK hL hM hN).mono ?_; rintro e w7 ⟨rfl, hb7⟩; have X7 := (X6.below hb7); obtain ⟨X7a, X7b⟩ := X7.facts; clear X6 X6a X6b; have Y7 := (Y6.below hb7); obtain ⟨Y7a, Y7b⟩ := Y7.facts; clear Y6 Y6a Y6b; have Z7 := (Z6.below hb7); obtain ⟨Z7a, Z7b⟩ := Z7.facts; clear Z6 Z6a Z6b; have hB7 := below_trans hB6 hb7) | (go_at_call 26; clear T8; refine (SC.out _).mono ?_; rintro e w8 ⟨ao, cap, rfl, hs1, hb8⟩; have X8 := (X7.below hb8); obtain ⟨X8a, X8b⟩ := X8.facts; clear X7 X7a X7b; have Y8 := (Y7.below hb8); obtain ⟨Y8a, Y8b⟩ := Y8.facts; clear Y7 Y7a Y7b; have Z8 := (Z7.below hb8); obtain ⟨Z8a, Z8b⟩ := Z8.facts; clear Z7 Z7a Z7b; have P8 := (hs1); have hB8 := below_trans hB7 hb8) | (go_at_call 11; clear T9; refine (LC.out _).mono ?_; rintro e w9 ⟨ao2, cap2, rfl, hs2, hb9⟩; have X9 := (X8.below hb9); obtain ⟨X9a, X9b⟩ := X9.facts; clear X8 X8a X8b; have Y9 := (Y8.below hb9); obtain ⟨Y9a, Y9b⟩ := Y9.facts; clear Y8 Y8a Y8b; have Z9 := (Z8.below hb9); obtain ⟨Z9a, Z9b⟩ := Z9.facts; clear Z8 Z8a Z8b; have P9 := (P8.below hb9); clear P8; have Q9 := (hs2); have hB9 := below_trans hB8 hb9) | (go_at_call 29; clear T10; refine (many_any h _ _ _ Q9).mono ?_; rintro e w10 ⟨rfl, hb10⟩; have X10 := (X9.below hb10); obtain ⟨X10a, X10b⟩ := X10.facts; clear X9 X9a X9b; have Y10 := (Y9.below hb10); obtain ⟨Y10a, Y10b⟩ := Y10.facts; clear Y9 Y9a Y9b; have Z10 := (Z9.below hb10); obtain ⟨Z10a, Z10b⟩ := Z10.facts; clear Z9 Z9a Z9b; have P10 := (P9.below hb10); clear P9; have Q10 := (Q9.below hb10); clear Q9; have hB10 := below_trans hB9 hb10))
  have F3 := hidq (Ss.ptr P10)
  have PP := hidq P10
  have BB := hidq hB10
  clear P10 Q10 X10 X10a X10b Y10 Y10a Y10b Z10 Z10a Z10b hB10 hb10
  generalize hW : w10 = W at *
  clear hW
  go_loopw [91, 16] (fun x t wr => ∃ k : Nat, k ≤ n ∧ x = .int .i64 k ∧ t = .int .u64 (M.sumM h (P.take k)) ∧ Below W.heap.size W wr) (fun x _ _ => n - (intOf x).toNat)
  case atStart => exact ⟨0, by omega, rfl, by simp [M.sumM], Below.refl _ _⟩
  case round =>
    obtain ⟨k, hk, rfl, rfl, hb⟩ := hrel
    have HB := hidq hb
    by_cases hlt : k < n
    · obtain ⟨b1, o1, rfl⟩ := F3.out (by omega)
      obtain ⟨x, hx⟩ : ∃ x, P[k]? = some x := ⟨_, List.getElem?_eq_getElem (by rw [HN.out]; exact hlt)⟩
      obtain ⟨c5, c6⟩ := Ss.at (PP.out.below hb) hx
      obtain ⟨x1, x2⟩ := HP.out x (List.mem_of_getElem? hx)
      have HX := hidq (M.sum_next (h := h) hx)
      obtain ⟨s1, s2⟩ := M.sum_bd (h := h) (fun y hy => (HP.out y hy).1) k (by omega)
      obtain ⟨-, -, -, e1, -, e2, e3⟩ := M.lvs_facts x1
      have e4 := M.p2_32 (M.ok_of (M.sub_of x1).1).2.1
      have EX := M.subE_yes x1
      have LX := hidq (fun X => leaves8_all h x.1 x.2 X x2.1.1 x2.1.2 x2.2.1 x2.2.2)
      rw [M.lvA_yes x1] at LX
      clear hx x1 x2
      obtain ⟨y, z⟩ := x
      dsimp only at c5 c6 HX e1 e2 e3 EX LX
      generalize M.lvs h y z = T at *
      generalize hmt : M.manyV h T = mt at *
      generalize M.sumM h (P.take k) = sm at *
      have B2 := hidq (below_one (o := .cells #[.int .u64 y, .int .u64 z] 24) hb)
      clear hb
      go_wp2_with (first | (go_at_call 11; refine (LX.out _).mono ?_; rintro e wa ⟨ao3, cap3, rfl, hp3, hb3⟩; have B3 := hidq (below_trans B2.out hb3)) | (go_at_call 29; refine (many_any h _ _ _ hp3).mono ?_; rintro e wb ⟨rfl, hb4⟩; have B4 := hidq (below_trans B3.out hb4)))
      go_roundw
      case rel => exact ⟨k + 1, by omega, by go_num, by rw [HX.out], B4.out⟩
      case measure => simp [intOf]; omega
    · have e9 : M.sumM h (P.take k) = mv := by rw [List.take_of_length_le (by rw [HN.out]; omega)]; exact HS.out
      rw [e9]
      clear hb
      go_wp2
      go_ret
      exact ⟨rfl, below_trans BB.out HB.out⟩
end Go.Proofs.Ytnfobglaeaalfaa
