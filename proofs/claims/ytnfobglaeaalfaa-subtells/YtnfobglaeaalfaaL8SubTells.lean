/-
  The law SubTells returns true at every input. Conditions: the numbers fit their kinds.
-/
import Derived.Test.YtnfobglaeaalfaaA10
import Derived.Deep.DeepCutAuto
namespace Go.Proofs.Ytnfobglaeaalfaa
open Go.RowKit
set_option maxRecDepth 100000 in
set_option maxHeartbeats 2000000 in
theorem subTells_walk (h : Int) (a b : Int × Int) (i : Int) (w : World) (_h0 : -9223372036854775808 ≤ h) (_h1 : h ≤ 9223372036854775807) (ha : M.fitS a) (hb : M.fitS b) (h4 : 0 ≤ i) (h5 : i ≤ 18446744073709551615) :
    Calls Try.prog 3 #[.int .i64 h, .agg #[.int .u64 a.1, .int .u64 a.2], .agg #[.int .u64 b.1, .int .u64 b.2], .int .u64 i] w fun e w' => e = .returned (.bool true) ∧ Below w.heap.size w w' := by
  obtain ⟨I, J⟩ := a
  obtain ⟨hI, hJ⟩ := ha
  obtain ⟨K, L⟩ := b
  obtain ⟨hK, hL⟩ := hb
  dsimp only at hI hJ hK hL ⊢
  have HA := hidq (fun o => (Below.refl _ w).alloc (Nat.le_refl w.heap.size) o)
  have X0 := (Bi.new w 24 I J).alloc (.cells #[.int .u64 K, .int .u64 L] 24)
  obtain ⟨X0a, X0b⟩ := X0.facts
  have Y0 := Bi.new1 w (.cells #[.int .u64 I, .int .u64 J] 24) 24 K L
  obtain ⟨Y0a, Y0b⟩ := Y0.facts
  have hB0 : Below w.heap.size w ((w.alloc (.cells #[.int .u64 I, .int .u64 J] 24)).alloc (.cells #[.int .u64 K, .int .u64 L] 24)) := below_one (HA.out _)
  clear HA
  have T1 := hidq trivial
  have T2 := hidq trivial
  have T3 := hidq trivial
  have T4 := hidq trivial
  have T5 := hidq trivial
  have T6 := hidq trivial
  have T7 := hidq trivial
  go_enter Try.func3, Try.ntmps3
  go_upto_region 8 with (first | (go_at_call 10; clear T1; refine (live8_any _).mono ?_; rintro e w1 ⟨rfl, hb1⟩; have X1 := (X0.below hb1); obtain ⟨X1a, X1b⟩ := X1.facts; clear X0 X0a X0b; have Y1 := (Y0.below hb1); obtain ⟨Y1a, Y1b⟩ := Y1.facts; clear Y0 Y0a Y0b; have hB1 := below_trans hB0 hb1) | (go_at_call 11; clear T2; refine (leaves8_all h I J _ hI.1 hI.2 hJ.1 hJ.2).mono ?_; rintro e w2 ⟨ao1, c1, rfl, hs1, hb2⟩; have X2 := (X1.below hb2); obtain ⟨X2a, X2b⟩ := X2.facts; clear X1 X1a X1b; have Y2 := (Y1.below hb2); obtain ⟨Y2a, Y2b⟩ := Y2.facts; clear Y1 Y1a Y1b; have P2 := (hs1); have hB2 := below_trans hB1 hb2) | (go_at_call 12; clear T3; refine (rleaves8_all h I J _ hI.1 hI.2 hJ.1 hJ.2).mono ?_; rintro e w3 ⟨ao2, c2, rfl, hs2, hb3⟩; have X3 := (X2.below hb3); obtain ⟨X3a, X3b⟩ := X3.facts; clear X2 X2a X2b; have Y3 := (Y2.below hb3); obtain ⟨Y3a, Y3b⟩ := Y3.facts; clear Y2 Y2a Y2b; have P3 := (P2.below hb3); clear P2; have Q3 := (hs2); have hB3 := below_trans hB2 hb3) | (go_at_call 13; clear T4; refine (has8_any h I J i _ hI.1 hI.2 hJ.1 hJ.2 h4 h5).mono ?_; rintro e w4 ⟨rfl, hb4⟩; have X4 := (X3.below hb4); obtain ⟨X4a, X4b⟩ := X4.facts; clear X3 X3a X3b; have Y4 := (Y3.below hb4); obtain ⟨Y4a, Y4b⟩ := Y4.facts; clear Y3 Y3a Y3b; have P4 := (P3.below hb4); clear P3; have Q4 := (Q3.below hb4); clear Q3; have hB4 := below_trans hB3 hb4) | (go_at_call 14; clear T5; refine (rhas8_any h I J i _ hI.1 hI.2 hJ.1 hJ.2 h4 h5).mono ?_; rintro e w5 ⟨rfl, hb5⟩; have X5 := (X4.below hb5); obtain ⟨X5a, X5b⟩ := X5.facts; clear X4 X4a X4b; have Y5 := (Y4.below hb5); obtain ⟨Y5a, Y5b⟩ := Y5.facts; clear Y4 Y4a Y4b; have P5 := (P4.below hb5); clear P4; have Q5 := (Q4.below hb5); clear Q4; have hB5 := below_trans hB4 hb5) | (go_at_call 15; clear T6; refine (touch_any h I J K L _ hI hJ hK hL).mono ?_; rintro e w6 ⟨rfl, hb6⟩; have X6 := (X5.below hb6); obtain ⟨X6a, X6b⟩ := X6.facts; clear X5 X5a X5b; have Y6 := (Y5.below hb6); obtain ⟨Y6a, Y6b⟩ := Y6.facts; clear Y5 Y5a Y5b; have P6 := (P5.below hb6); clear P5; have Q6 := (Q5.below hb6); clear Q5; have hB6 := below_trans hB5 hb6) | (go_at_call 16; clear T7; refine (rtouch_any h I J K L _ hI hJ hK hL).mono ?_; rintro e w7 ⟨rfl, hb7⟩; have X7 := (X6.below hb7); obtain ⟨X7a, X7b⟩ := X7.facts; clear X6 X6a X6b; have Y7 := (Y6.below hb7); obtain ⟨Y7a, Y7b⟩ := Y7.facts; clear Y6 Y6a Y6b; have P7 := (P6.below hb7); clear P6; have Q7 := (Q6.below hb7); clear Q6; have hB7 := below_trans hB6 hb7))
  obtain ⟨G, HG, HF, HO, HW, ne⟩ := clq_of w w7 (fun X => Bi X w.heap.size 24 I J ∧ Bi X (w.heap.size + 1) 24 K L ∧ Ps X (.slice ao1 (M.lvA h I J).length c1) (M.lvA h I J) ∧ Ps X (.slice ao2 (M.lvA h I J).length c2) (M.lvA h I J)) (fun _ _ h hb => ⟨h.1.below hb, h.2.1.below hb, h.2.2.1.below hb, h.2.2.2.below hb⟩) ⟨X7, Y7, P7, Q7⟩ hB7
  have g1 := fun c : Clq G => (HF.out c).1.facts.1
  have g2 := fun c : Clq G => (HF.out c).1.facts.2
  have g3 := fun c : Clq G => (HF.out c).2.1.facts.1
  have g4 := fun c : Clq G => (HF.out c).2.1.facts.2
  clear X7 X7a X7b Y7 Y7a Y7b P7 Q7 hB7 hb7
  refine regionq (by kernel_rfl) (by kernel_rfl) HW.out ?_
  repeat (go_big_quiet_step (first | (go_at_call 17; exact quietq HG.out _ (sameSpans_yes _ _ _ _ (HF.out _).2.2.1 (HF.out _).2.2.2)) | (go_at_call 18; exact quietq HG.out _ (check8_any h I J _ hI.1 hI.2 hJ.1 hJ.2)) | (go_at_call 19; exact quietq HG.out _ (rcheck8_any h I J _ hI.1 hI.2 hJ.1 hJ.2)) | (go_at_call 20; exact quietq HG.out _ (less8_any I J K L _ hI hJ hK hL)) | (go_at_call 21; exact quietq HG.out _ (rless8_any I J K L _ hI hJ hK hL))))
  refine wpQuiet_nil ?_
  rintro _ ⟨s2, rfl⟩
  have hB := hidq (HO.out s2)
  go_wp2
  go_ret
  exact ⟨rfl, hB.out⟩
end Go.Proofs.Ytnfobglaeaalfaa
