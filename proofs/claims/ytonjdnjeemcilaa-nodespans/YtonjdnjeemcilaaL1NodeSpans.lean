/-
  The law NodeSpans returns true at every input. Conditions: the numbers fit their kinds.
-/
import Derived.Test.YtonjdnjeemcilaaW4
import Derived.Test.YtonjdnjeemcilaaM2
import Derived.Test.YtonjdnjeemcilaaBel
import Derived.Deep.RegionWith
namespace Go.Proofs.Ytonjdnjeemcilaa
open Go.RowKit
theorem spans_cases (la ha lb hb a b : Int) (ab ba : Bool) (h1 : la ≤ ha) (h2 : lb ≤ hb) (W : la ≤ lb ∧ hb ≤ ha ↔ ab = true) (P : ha < lb ∨ hb < la ↔ ¬ ab = true ∧ ¬ ba = true) (R1 : ab = true → ba = true → a = b) (R2 : a = b → ab = true ∧ ba = true) :
    (ab = true ∧ ba = true ∧ (a == b) = true ∧ la ≤ lb ∧ hb ≤ ha ∧ ¬ ha < lb ∧ ¬ hb < la ∧ la ≤ ha) ∨
    (ab = true ∧ ba = false ∧ (a == b) = false ∧ la ≤ lb ∧ hb ≤ ha ∧ ¬ ha < lb ∧ ¬ hb < la ∧ la ≤ ha) ∨
    (ab = false ∧ ba = true ∧ (a == b) = false ∧ la ≤ lb ∧ ¬ hb ≤ ha ∧ ¬ ha < lb ∧ ¬ hb < la ∧ la ≤ ha) ∨
    (ab = false ∧ ba = true ∧ (a == b) = false ∧ ¬ la ≤ lb ∧ ¬ ha < lb ∧ ¬ hb < la ∧ la ≤ ha) ∨
    (ab = false ∧ ba = false ∧ (a == b) = false ∧ ¬ la ≤ lb ∧ ¬ ha < lb ∧ hb < la ∧ la ≤ ha) ∨
    (ab = false ∧ ba = false ∧ (a == b) = false ∧ la ≤ lb ∧ ¬ hb ≤ ha ∧ ha < lb ∧ la ≤ ha ∧ la ≤ ha) := by
  cases ab <;> cases ba <;> simp only [beq_iff_eq, beq_eq_false_iff_ne] <;> simp at W P R1 R2 ⊢ <;> omega
set_option maxHeartbeats 2000000 in
theorem nodeSpans_walk (h a b : Int) (w : World) (h0 : 0 ≤ a) (h1 : a ≤ 18446744073709551615) (h2 : 0 ≤ b) (h3 : b ≤ 18446744073709551615) :
    Calls Try.prog 5 #[.int .i64 h, .int .u64 a, .int .u64 b] w fun e w' => e = .returned (.bool true) ∧ Below w.heap.size w w' := by
  by_cases hk : M.okB h a = true ∧ M.okB h b = true
  · obtain ⟨hka, hkb⟩ := hk
    have E1 := M.eChk_ok hka
    have E2 := M.eChk_ok hkb
    have E3 := M.eBoth_ok hka hkb
    have E4 := M.eBoth_ok hkb hka
    have A1 := M.abvV_ok hka hkb
    have A2 := M.abvV_ok hkb hka
    have L1 := M.lowV_ok hka
    have L2 := M.lowV_ok hkb
    have H1 := M.highV_ok hka
    have H2 := M.highV_ok hkb
    have B1 := M.low_bd hka
    have B2 := M.low_bd hkb
    have W1 := M.within_iff hka hkb
    have P1 := M.apart_iff hka hkb
    have R1 := @M.abv_antisymm a b
    have R2 : a = b → M.abv a b = true ∧ M.abv b a = true := fun h => by subst h; exact ⟨M.abv_refl _, M.abv_refl _⟩
    have hcs := spans_cases (M.low h a) (M.high h a) (M.low h b) (M.high h b) a b (M.abv a b) (M.abv b a) B1.2.1 B2.2.1 W1 P1 R1 R2
    clear hka hkb W1 P1 R1 R2 B1 B2
    generalize M.low h a = la at *
    generalize M.low h b = lb at *
    generalize M.high h a = ha at *
    generalize M.high h b = hb at *
    generalize M.abv a b = ab at *
    generalize M.abv b a = ba at *
    rcases hcs with ⟨g1, g2, g3, g4, g5, g6, g7, g8⟩ | ⟨g1, g2, g3, g4, g5, g6, g7, g8⟩ | ⟨g1, g2, g3, g4, g5, g6, g7, g8⟩ | ⟨g1, g2, g3, g4, g5, g7, g8⟩ | ⟨g1, g2, g3, g4, g5, g7, g8⟩ | ⟨g1, g2, g3, g4, g5, g6, g7, g8⟩
    all_goals
      subst g1; subst g2
      go_enter Try.func5, Try.ntmps5
      go_wp2_with (first | (go_at_call 10; refine (live_any _).mono ?_; rintro e w' ⟨rfl, rfl⟩) | (go_at_call 25; refine (above_any _ _ _ _ (by omega) (by omega) (by omega) (by omega)).mono ?_; rintro e w' ⟨rfl, rfl⟩) | (go_at_call_of 17 (Value.int IntKind.u64 a); refine (leaves_any _ _ _ (by omega) (by omega)).mono ?_; rintro e w1 ⟨rfl, hb1⟩; have hs1 := hb1.size) | (go_at_call_of 17 (Value.int IntKind.u64 b); refine (leaves_any _ _ _ (by omega) (by omega)).mono ?_; rintro e w2 ⟨rfl, hb2⟩; have hs2 := below_lt hb2; obtain ⟨hc2, hf2⟩ := bcell hb2))
      go_ret
      refine ⟨M.ret_bool ?_, below_two hb1 hb2⟩
      first | rfl | (simp; omega)
  · have hne := M.eBoth_no hk
    have hne2 : M.eBoth h b a = 1 := M.eBoth_no (fun h => hk ⟨h.2, h.1⟩)
    by_cases hka : M.okB h a = true
    · have E1 := M.eChk_ok hka
      have E2 : M.eChk h b = 1 := M.eChk_nok (fun h => hk ⟨hka, h⟩)
      clear hk hka
      go_enter Try.func5, Try.ntmps5
      go_wp2_with (first | (go_at_call 10; refine (live_any _).mono ?_; rintro e w' ⟨rfl, rfl⟩) | (go_at_call 25; refine (above_any _ _ _ _ (by omega) (by omega) (by omega) (by omega)).mono ?_; rintro e w' ⟨rfl, rfl⟩) | (go_at_call_of 17 (Value.int IntKind.u64 a); refine (leaves_any _ _ _ (by omega) (by omega)).mono ?_; rintro e w1 ⟨rfl, hb1⟩; have hs1 := hb1.size) | (go_at_call_of 17 (Value.int IntKind.u64 b); refine (leaves_any _ _ _ (by omega) (by omega)).mono ?_; rintro e w2 ⟨rfl, hb2⟩; have hs2 := below_lt hb2; obtain ⟨hc2, hf2⟩ := bcell hb2))
      go_ret
      exact ⟨rfl, below_two hb1 hb2⟩
    · have E1 := M.eChk_nok hka
      clear hk hka
      go_enter Try.func5, Try.ntmps5
      go_wp2_with (first | (go_at_call 10; refine (live_any _).mono ?_; rintro e w' ⟨rfl, rfl⟩) | (go_at_call 25; refine (above_any _ _ _ _ (by omega) (by omega) (by omega) (by omega)).mono ?_; rintro e w' ⟨rfl, rfl⟩) | (go_at_call_of 17 (Value.int IntKind.u64 a); refine (leaves_any _ _ _ (by omega) (by omega)).mono ?_; rintro e w1 ⟨rfl, hb1⟩; have hs1 := hb1.size) | (go_at_call_of 17 (Value.int IntKind.u64 b); refine (leaves_any _ _ _ (by omega) (by omega)).mono ?_; rintro e w2 ⟨rfl, hb2⟩; have hs2 := below_lt hb2; obtain ⟨hc2, hf2⟩ := bcell hb2))
      go_ret
      exact ⟨rfl, below_two hb1 hb2⟩
end Go.Proofs.Ytonjdnjeemcilaa
