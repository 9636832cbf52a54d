/-
  The law SubWhole returns true at every input. Conditions: the numbers fit their kinds.
-/
import Derived.Test.YtnfobglaeaalfaaA10
namespace Go.Proofs.Ytnfobglaeaalfaa
open Go.RowKit
set_option maxRecDepth 100000 in
set_option maxHeartbeats 2000000 in
theorem subWhole_no (h I J : Int) (w : World) (hI : 0 ≤ I ∧ I ≤ 18446744073709551615) (hJ : 0 ≤ J ∧ J ≤ 18446744073709551615) (hs : M.subB h I J = false) :
    Calls Try.prog 9 #[.int .i64 h, .agg #[.int .u64 I, .int .u64 J]] w fun e w' => e = .returned (.bool true) ∧ Below w.heap.size w w' := by
  have LA := M.lvA_no hs
  have E := M.subE_no hs
  clear hs
  have HA := hidq (fun o => (Below.refl _ w).alloc (Nat.le_refl w.heap.size) o)
  have X0 := Bi.new w 24 I J
  obtain ⟨X0a, X0b⟩ := X0.facts
  have hB0 : Below w.heap.size w (w.alloc (.cells #[.int .u64 I, .int .u64 J] 24)) := HA.out _
  clear HA
  have T1 := hidq trivial
  have T2 := hidq trivial
  go_enter Try.func9, Try.ntmps9
  go_wp2_with (first | (go_at_call 10; clear T1; refine (live8_any _).mono ?_; rintro e w1 ⟨rfl, hb1⟩; have X1 := (X0.below hb1); obtain ⟨X1a, X1b⟩ := X1.facts; clear X0 X0a X0b; have hB1 := below_trans hB0 hb1) | (go_at_call 11; clear T2; refine (leaves8_all h I J _ hI.1 hI.2 hJ.1 hJ.2).mono ?_; rintro e w2 ⟨ao, cap, rfl, _, hb2⟩; have X2 := (X1.below hb2); obtain ⟨X2a, X2b⟩ := X2.facts; clear X1 X1a X1b; have hB2 := below_trans hB1 hb2))
  go_ret
  exact ⟨rfl, hB2⟩
set_option maxRecDepth 100000 in
set_option maxHeartbeats 2000000 in
theorem subWhole_zero (h I : Int) (w : World) (hI : 0 ≤ I ∧ I ≤ 18446744073709551615) (hs : M.subB h I 0 = true) :
    Calls Try.prog 9 #[.int .i64 h, .agg #[.int .u64 I, .int .u64 0]] w fun e w' => e = .returned (.bool true) ∧ Below w.heap.size w w' := by
  have hJ : (0 : Int) ≤ 0 ∧ (0 : Int) ≤ 18446744073709551615 := by omega
  have LA := M.lvA_yes hs
  have E := M.subE_yes hs
  obtain ⟨-, -, -, f3, -, -⟩ := M.lvs_facts hs
  have hn : (M.lvs h I 0).length = 1 := by unfold M.lvs; rw [if_pos rfl]; rfl
  have LC := hidq (fun X => leaves8_all h I 0 X hI.1 hI.2 hJ.1 hJ.2)
  rw [LA, hn] at LC
  clear hs LA hn
  generalize hS : M.lvs h I 0 = S at *
  generalize hmv : M.manyV h S = mv at *
  have HA := hidq (fun o => (Below.refl _ w).alloc (Nat.le_refl w.heap.size) o)
  have X0 := Bi.new w 24 I 0
  obtain ⟨X0a, X0b⟩ := X0.facts
  have hB0 : Below w.heap.size w (w.alloc (.cells #[.int .u64 I, .int .u64 0] 24)) := HA.out _
  clear HA
  have T1 := hidq trivial
  have T2 := hidq trivial
  have T3 := hidq trivial
  have T4 := hidq trivial
  have T5 := hidq trivial
  go_enter Try.func9, Try.ntmps9
  go_wp2_with (first | (go_at_call 10; clear T1; refine (live8_any _).mono ?_; rintro e w1 ⟨rfl, hb1⟩; have X1 := (X0.below hb1); obtain ⟨X1a, X1b⟩ := X1.facts; clear X0 X0a X0b; have hB1 := below_trans hB0 hb1) | (go_at_call 11; clear T2; refine (LC.out _).mono ?_; rintro e w2 ⟨ao, cap, rfl, hs1, hb2⟩; have X2 := (X1.below hb2); obtain ⟨X2a, X2b⟩ := X2.facts; clear X1 X1a X1b; have P2 := (hs1); have hB2 := below_trans hB1 hb2) | (go_at_call 11; clear T3; refine (LC.out _).mono ?_; rintro e w3 ⟨ao2, cap2, rfl, hs2, hb3⟩; have X3 := (X2.below hb3); obtain ⟨X3a, X3b⟩ := X3.facts; clear X2 X2a X2b; have P3 := (P2.below hb3); clear P2; have Q3 := (hs2); have hB3 := below_trans hB2 hb3) | (go_at_call 29; clear T4; refine (many_any h _ _ _ P3).mono ?_; rintro e w4 ⟨rfl, hb4⟩; have X4 := (X3.below hb4); obtain ⟨X4a, X4b⟩ := X4.facts; clear X3 X3a X3b; have P4 := (P3.below hb4); clear P3; have Q4 := (Q3.below hb4); clear Q3; have hB4 := below_trans hB3 hb4) | (go_at_call 29; clear T5; refine (many_any h _ _ _ Q4).mono ?_; rintro e w5 ⟨rfl, hb5⟩; have X5 := (X4.below hb5); obtain ⟨X5a, X5b⟩ := X5.facts; clear X4 X4a X4b; have P5 := (P4.below hb5); clear P4; have Q5 := (Q4.below hb5); clear Q4; have hB5 := below_trans hB4 hb5))
  go_ret
  exact ⟨rfl, hB5⟩
set_option maxRecDepth 100000 in
set_option maxHeartbeats 2000000 in
theorem subWhole_some (h I J : Int) (w : World) (hI : 0 ≤ I ∧ I ≤ 18446744073709551615) (hJ : 0 ≤ J ∧ J ≤ 18446744073709551615) (hs : M.subB h I J = true) (h0 : J ≠ 0) :
    Calls Try.prog 9 #[.int .i64 h, .agg #[.int .u64 I, .int .u64 J]] w fun e w' => e = .returned (.bool true) ∧ Below w.heap.size w w' := by
  have hZ : (0 : Int) ≤ 0 ∧ (0 : Int) ≤ 18446744073709551615 := by omega
  obtain ⟨ht, hu, x1, x2, x3⟩ := M.whole_facts hs h0
  have LA := M.lvA_yes hs
  have E := M.subE_yes hs
  have LB := M.lvA_yes ht
  have E2 := M.subE_yes ht
  have LD := M.lvA_yes hu
  have E3 := M.subE_yes hu
  obtain ⟨E4, E5⟩ := M.to_yes hs ht
  rw [x1] at E5
  obtain ⟨-, -, -, f3, -, f5, f6⟩ := M.lvs_facts hs
  obtain ⟨-, -, -, k3, -, k5, k6⟩ := M.lvs_facts ht
  obtain ⟨-, -, -, m3, -, m5, m6⟩ := M.lvs_facts hu
  have p32 := M.p2_32 (M.ok_of (M.sub_of hs).1).2.1
  have hn : (M.lvs h I 0).length = 1 := by unfold M.lvs; rw [if_pos rfl]; rfl
  have LC := hidq (fun X => leaves8_all h I J X hI.1 hI.2 hJ.1 hJ.2)
  have LI := hidq (fun X => leaves8_all h I 0 X hI.1 hI.2 hZ.1 hZ.2)
  have LJ := hidq (fun X => leaves8_all h J 0 X hJ.1 hJ.2 hZ.1 hZ.2)
  have TC := hidq (fun X => touch_any h I J J 0 X hI hJ hJ hZ)
  rw [LA] at LC
  rw [LD, hn] at LI
  rw [LB] at LJ
  rw [E4, E5] at TC
  have hJ0 : (J == 0) = false := by rw [beq_eq_false_iff_ne]; exact h0
  clear hs ht hu LA LB LD hn x1 E4 E5
  generalize hS : M.lvs h I J = S at *
  generalize hT : M.lvs h I 0 = T at *
  generalize hU : M.lvs h J 0 = U at *
  generalize hmv : M.manyV h S = mv at *
  generalize hmt : M.manyV h T = mt at *
  generalize hmu : M.manyV h U = mu at *
  clear hS hT hU
  have HA := hidq (fun o => (Below.refl _ w).alloc (Nat.le_refl w.heap.size) o)
  have X0 := Bi.new w 24 I J
  obtain ⟨X0a, X0b⟩ := X0.facts
  have hB0 : Below w.heap.size w (w.alloc (.cells #[.int .u64 I, .int .u64 J] 24)) := HA.out _
  clear HA
  have T1 := hidq trivial
  have T2 := hidq trivial
  have T3 := hidq trivial
  have T4 := hidq trivial
  have T5 := hidq trivial
  have T6 := hidq trivial
  have T7 := hidq trivial
  have T8 := hidq trivial
  go_enter Try.func9, Try.ntmps9
  go_wp2_with (first | (go_at_call 10; clear T1; refine (live8_any _).mono ?_; rintro e w1 ⟨rfl, hb1⟩; have X1 := (X0.below hb1); obtain ⟨X1a, X1b⟩ := X1.facts; clear X0 X0a X0b; have hB1 := below_trans hB0 hb1) | (go_at_call 11; clear T2; refine (LC.out _).mono ?_; rintro e w2 ⟨ao, cap, rfl, hs1, hb2⟩; have X2 := (X1.below hb2); obtain ⟨X2a, X2b⟩ := X2.facts; clear X1 X1a X1b; have P2 := (hs1); have hB2 := below_trans hB1 hb2) | (go_at_call 11; clear T3; refine (LI.out _).mono ?_; rintro e w3 ⟨ao2, cap2, rfl, hs2, hb3⟩; have X3 := (X2.below hb3); obtain ⟨X3a, X3b⟩ := X3.facts; clear X2 X2a X2b; have P3 := (P2.below hb3); clear P2; have Q3 := (hs2); have hB3 := below_trans hB2 hb3) | (go_at_call 29; clear T4; refine (many_any h _ _ _ P3).mono ?_; rintro e w4 ⟨rfl, hb4⟩; have X4 := (X3.below hb4); obtain ⟨X4a, X4b⟩ := X4.facts; clear X3 X3a X3b; have P4 := (P3.below hb4); clear P3; have Q4 := (Q3.below hb4); clear Q3; have hB4 := below_trans hB3 hb4) | (go_at_call 29; clear T5; refine (many_any h _ _ _ Q4).mono ?_; rintro e w5 ⟨rfl, hb5⟩; have X5 := (X4.below hb5); obtain ⟨X5a, X5b⟩ := X5.facts; clear X4 X4a X4b; have P5 := (P4.below hb5); clear P4; have Q5 := (Q4.below hb5); clear Q4; have hB5 := below_trans hB4 hb5) | (go_at_call 15; clear T6; refine (TC.out _).mono ?_; rintro e w6 ⟨rfl, hb6⟩; have X6 := (X5.below hb6); obtain ⟨X6a, X6b⟩ := X6.facts; clear X5 X5a X5b; have hB6 := below_trans hB5 hb6) | (go_at_call 11; clear T7; refine (LJ.out _).mono ?_; rintro e w7 ⟨ao3, cap3, rfl, hs3, hb7⟩; have X7 := (X6.below hb7); obtain ⟨X7a, X7b⟩ := X7.facts; clear X6 X6a X6b; have R7 := (hs3); have hB7 := below_trans hB6 hb7) | (go_at_call 29; clear T8; refine (many_any h _ _ _ R7).mono ?_; rintro e w8 ⟨rfl, hb8⟩; have X8 := (X7.below hb8); obtain ⟨X8a, X8b⟩ := X8.facts; clear X7 X7a X7b; have R8 := (R7.below hb8); clear R7; have hB8 := below_trans hB7 hb8))
  go_ret
  exact ⟨rfl, hB8⟩
theorem subWhole_walk (h : Int) (s : Int × Int) (w : World) (_h0 : -9223372036854775808 ≤ h) (_h1 : h ≤ 9223372036854775807) (hs : M.fitS s) :
    Calls Try.prog 9 #[.int .i64 h, .agg #[.int .u64 s.1, .int .u64 s.2]] w fun e w' => e = .returned (.bool true) ∧ Below w.heap.size w w' := by
  obtain ⟨I, J⟩ := s
  obtain ⟨hI, hJ⟩ := hs
  dsimp only at hI hJ ⊢
  cases hb : M.subB h I J
  · exact subWhole_no h I J w hI hJ hb
  · by_cases h0 : J = 0
    · subst h0; exact subWhole_zero h I w hI hb
    · exact subWhole_some h I J w hI hJ hb h0
end Go.Proofs.Ytnfobglaeaalfaa
