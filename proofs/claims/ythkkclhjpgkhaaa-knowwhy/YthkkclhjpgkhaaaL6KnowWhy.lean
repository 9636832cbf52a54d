/-
  The walk of KnowWhy at every input. Conditions: the slices hold terms, and places.
-/
import Derived.Test.YthkkclhjpgkhaaaL60
namespace Go.Proofs.Ythkkclhjpgkhaaa
open Go.RowKit
theorem is_form1 {W : World} {v : Value} {c : List Int} {k : Nat} (h : Is W v c) (hk : c.length = k + 1) : ∃ b o cap, v = .slice (some ⟨b, o, none⟩) (k + 1) cap ∧ (k : Int) + 1 ≤ 9223372036854775807 := by
  obtain ⟨ao, cap, rfl, h1, h2, h4⟩ := h.form
  obtain ⟨b, o, rfl⟩ := h4 (by omega)
  unfold maxLen at h2
  exact ⟨b, o, cap, by rw [hk], by omega⟩
set_option maxRecDepth 100000 in
set_option maxHeartbeats 2000000 in
theorem knowWhy_walk (A : List M.Tm) (v1 : Value) (H : List Int) (v2 : Value) (i : Int) (w : World) (u1 : Ts w v1 A) (u2 : Is w v2 H) (hi1 : -9223372036854775808 ≤ i) (hi2 : i ≤ 9223372036854775807) :
    Calls Try.prog 4 #[v1, v2, .int .i64 i] w fun e w' => e = .returned (.bool true) ∧ Below w.heap.size w w' := by
  obtain ⟨a2, c2, rfl, _, _, _⟩ := u2.form
  have HFI := hidq (show M.fitI i from ⟨hi1, hi2⟩)
  have U1 := hidq u1
  have U2 := hidq u2
  clear u1 u2
  by_cases hfe : M.Few1 A H
  · have HFE := hidq hfe
    clear hfe
    obtain ⟨r, er, hK⟩ := knwA A H i
    have HK := hidq hK
    rcases hK with ⟨rfl, h1, h2, h3, hr⟩ | ⟨rfl, h, rfl⟩
    · cases r with
      | true =>
        have HW := hidq (⟨h1, h2, h3, hr.1 rfl⟩ : M.Ok A ∧ M.okL A H ∧ M.Pl A i ∧ M.Kn A H i)
        clear h1 h2 h3 hr
        go_enter Try.func4, Try.ntmps4
        go_wp2_with (first | (go_at_call 10; refine (klive_any _).mono ?_; rintro rr w1 ⟨rfl, hb1⟩; have B1 := hidq hb1; clear hb1) | (go_at_call 11; refine (few1_yes HFE.out _ ((U1.out.below B1.out).alloc _) (iss_one w1 _ (by simp) _ _ _ H (U2.out.below B1.out))).mono ?_; rintro rr w2 ⟨rfl, hw2⟩; subst w2; have B2 := hidq (below_one (o := .cells #[.slice a2 H.length c2] 23) B1.out)) | (go_at_call 14; refine (kknows_any HFI.out HK.out _ (U1.out.below B2.out) (U2.out.below B2.out)).mono ?_; rintro rr w3 ⟨rfl, hb3⟩; have B3 := hidq (below_trans B2.out hb3); clear hb3) | (go_at_call 21; refine (why_ok HW.out.1 HW.out.2.1 HW.out.2.2.1 HW.out.2.2.2 _ (U1.out.below B3.out) (U2.out.below B3.out)).mono ?_; rintro rr w4 ⟨v4, rfl, ⟨c, hI, hC, hO, kk, hkk, hck⟩, hb4⟩; obtain ⟨b4, o4, c4, rfl, z1⟩ := is_form1 hI hkk; have I4 := hidq hI; have C4 := hidq hC; have O4 := hidq hO; have KK := hidq hck; have B4 := hidq (below_trans B3.out hb4); clear hb4 hI hC hO hck hkk) | (go_at_call 18; refine (is_ok HW.out.1 HW.out.2.1 O4.out (r := true) ⟨fun _ => C4.out, fun _ => rfl⟩ _ (U1.out.below B4.out) (U2.out.below B4.out) I4.out).mono ?_; rintro rr w5 ⟨rfl, hb5⟩; have q5 := Is.cellq (I4.out.below hb5) KK.out; have B5 := hidq (below_trans B4.out hb5); clear hb5))
        go_ret
        exact ⟨rfl, B5.out⟩
      | false =>
        have HW := hidq (⟨h1, h2, h3, fun h => by have := hr.2 h; cases this⟩ : M.Ok A ∧ M.okL A H ∧ M.Pl A i ∧ ¬ M.Kn A H i)
        clear h1 h2 h3 hr
        go_enter Try.func4, Try.ntmps4
        go_wp2_with (first | (go_at_call 10; refine (klive_any _).mono ?_; rintro rr w1 ⟨rfl, hb1⟩; have B1 := hidq hb1; clear hb1) | (go_at_call 11; refine (few1_yes HFE.out _ ((U1.out.below B1.out).alloc _) (iss_one w1 _ (by simp) _ _ _ H (U2.out.below B1.out))).mono ?_; rintro rr w2 ⟨rfl, hw2⟩; subst w2; have B2 := hidq (below_one (o := .cells #[.slice a2 H.length c2] 23) B1.out)) | (go_at_call 14; refine (kknows_any HFI.out HK.out _ (U1.out.below B2.out) (U2.out.below B2.out)).mono ?_; rintro rr w3 ⟨rfl, hb3⟩; have B3 := hidq (below_trans B2.out hb3); clear hb3) | (go_at_call 21; refine (why_none HW.out.1 HW.out.2.1 HW.out.2.2.1 HW.out.2.2.2 _ (U1.out.below B3.out) (U2.out.below B3.out)).mono ?_; rintro rr w4 ⟨rfl, hb4⟩; have B4 := hidq (below_trans B3.out hb4); clear hb4))
        go_ret
        exact ⟨rfl, B4.out⟩
    · have HW := hidq h
      clear h
      go_enter Try.func4, Try.ntmps4
      go_wp2_with (first | (go_at_call 10; refine (klive_any _).mono ?_; rintro rr w1 ⟨rfl, hb1⟩; have B1 := hidq hb1; clear hb1) | (go_at_call 11; refine (few1_yes HFE.out _ ((U1.out.below B1.out).alloc _) (iss_one w1 _ (by simp) _ _ _ H (U2.out.below B1.out))).mono ?_; rintro rr w2 ⟨rfl, hw2⟩; subst w2; have B2 := hidq (below_one (o := .cells #[.slice a2 H.length c2] 23) B1.out)) | (go_at_call 14; refine (kknows_any HFI.out HK.out _ (U1.out.below B2.out) (U2.out.below B2.out)).mono ?_; rintro rr w3 ⟨rfl, hb3⟩; have B3 := hidq (below_trans B2.out hb3); clear hb3) | (go_at_call 21; refine (why_no HFI.out HW.out _ (U1.out.below B3.out) (U2.out.below B3.out)).mono ?_; rintro rr w4 ⟨rfl, hb4⟩; have B4 := hidq (below_trans B3.out hb4); clear hb4))
      go_ret
      exact ⟨rfl, B4.out⟩
  · have HFE := hidq hfe
    clear hfe
    go_enter Try.func4, Try.ntmps4
    go_wp2_with (first | (go_at_call 10; refine (klive_any _).mono ?_; rintro rr w1 ⟨rfl, hb1⟩; have B1 := hidq hb1; clear hb1) | (go_at_call 11; refine (few1_no HFE.out _ ((U1.out.below B1.out).alloc _) (iss_one w1 _ (by simp) _ _ _ H (U2.out.below B1.out))).mono ?_; rintro rr w2 ⟨rfl, hw2⟩; subst w2))
    go_ret
    exact ⟨rfl, below_one B1.out⟩
end Go.Proofs.Ythkkclhjpgkhaaa
