/-
  The law SubUses returns true at every input. Conditions: the numbers fit their kinds.
-/
import Derived.Test.YtnfobglaeaalfaaA10
namespace Go.Proofs.Ytnfobglaeaalfaa
open Go.RowKit
set_option maxRecDepth 100000 in
set_option maxHeartbeats 1000000 in
theorem subUses_walk (h : Int) (s : Int × Int) (w : World) (_h0 : -9223372036854775808 ≤ h) (_h1 : h ≤ 9223372036854775807) (hs : M.fitS s) :
    Calls Try.prog 4 #[.int .i64 h, .agg #[.int .u64 s.1, .int .u64 s.2]] w fun e w' => e = .returned (.bool true) ∧ Below w.heap.size w w' := by
  obtain ⟨I, J⟩ := s
  obtain ⟨hI, hJ⟩ := hs
  dsimp only at hI hJ ⊢
  have HA := hidq (fun o => (Below.refl _ w).alloc (Nat.le_refl w.heap.size) o)
  have X0 := Bi.new w 24 I J
  obtain ⟨X0a, X0b⟩ := X0.facts
  have hB0 : Below w.heap.size w (w.alloc (.cells #[.int .u64 I, .int .u64 J] 24)) := HA.out _
  clear HA
  have T1 := hidq trivial
  have T2 := hidq trivial
  have T3 := hidq trivial
  have T4 := hidq trivial
  have T5 := hidq trivial
  have T6 := hidq trivial
  go_enter Try.func4, Try.ntmps4
  go_wp2_with (first | (go_at_call 10; clear T1; refine (live8_any _).mono ?_; rintro e w1 ⟨rfl, hb1⟩; have X1 := (X0.below hb1); obtain ⟨X1a, X1b⟩ := X1.facts; clear X0 X0a X0b; have hB1 := below_trans hB0 hb1) | (go_at_call 22; refine (step8_any _ _).mono ?_; rintro e w' ⟨rfl, hw⟩; subst w') | (go_at_call 23; refine (rstep8_any _ _).mono ?_; rintro e w' ⟨rfl, hw⟩; subst w') | (go_at_call 24; clear T2; refine (useful_any h I J _ hI.1 hI.2 hJ.1 hJ.2).mono ?_; rintro e w2 ⟨rfl, hb2⟩; have X2 := (X1.below hb2); obtain ⟨X2a, X2b⟩ := X2.facts; clear X1 X1a X1b; have hB2 := below_trans hB1 hb2) | (go_at_call 25; clear T3; refine (ruseful_any h I J _ hI.1 hI.2 hJ.1 hJ.2).mono ?_; rintro e w3 ⟨rfl, hb3⟩; have X3 := (X2.below hb3); obtain ⟨X3a, X3b⟩ := X3.facts; clear X2 X2a X2b; have hB3 := below_trans hB2 hb3) | (go_at_call 26; clear T4; refine (split_all h I J _ hI.1 hI.2 hJ.1 hJ.2).mono ?_; rintro e w4 ⟨ao1, c1, rfl, hs1, hb4⟩; have X4 := (X3.below hb4); obtain ⟨X4a, X4b⟩ := X4.facts; clear X3 X3a X3b; have P4 := (hs1); have hB4 := below_trans hB3 hb4) | (go_at_call 27; clear T5; refine (rsplit_all h I J _ hI.1 hI.2 hJ.1 hJ.2).mono ?_; rintro e w5 ⟨ao2, c2, rfl, hs2, hb5⟩; have X5 := (X4.below hb5); obtain ⟨X5a, X5b⟩ := X5.facts; clear X4 X4a X4b; have P5 := (P4.below hb5); clear P4; have Q5 := (hs2); have hB5 := below_trans hB4 hb5) | (go_at_call 28; clear T6; refine (rsameS_yes (M.spA h I J) _ _ _ P5 Q5).mono ?_; rintro e w6 ⟨rfl, hb6⟩; have X6 := (X5.below hb6); obtain ⟨X6a, X6b⟩ := X6.facts; clear X5 X5a X5b; have P6 := (P5.below hb6); clear P5; have Q6 := (Q5.below hb6); clear Q5; have hB6 := below_trans hB5 hb6))
  go_ret
  exact ⟨rfl, hB6⟩
end Go.Proofs.Ytnfobglaeaalfaa
