/-
  The walk of KnowSteps at every input. Conditions: the slices hold terms, and places.
-/
import Derived.Test.YthkkclhjpgkhaaaL60
import Derived.Test.YthkkclhjpgkhaaaNU
namespace Go.Proofs.Ythkkclhjpgkhaaa
open Go.RowKit
set_option maxRecDepth 100000 in
set_option maxHeartbeats 2000000 in
theorem knowSteps_walk (A : List M.Tm) (v1 : Value) (H : List Int) (v2 : Value) (L : List Int) (v3 : Value) (cut i : Int) (w : World) (u1 : Ts w v1 A) (u2 : Is w v2 H) (u3 : Is w v3 L) (_ : -9223372036854775808 ≤ cut) (_ : cut ≤ 9223372036854775807) (hi1 : -9223372036854775808 ≤ i) (hi2 : i ≤ 9223372036854775807) :
    Calls Try.prog 9 #[v1, v2, v3, .int .i64 cut, .int .i64 i] w fun e w' => e = .returned (.bool true) ∧ Below w.heap.size w w' := by
  obtain ⟨a2, c2, rfl, _, _, _⟩ := u2.form
  obtain ⟨a3, c3, rfl, q1, q2, q4⟩ := u3.form
  have hm3 : L.length ≤ maxLen := by omega
  unfold maxLen at hm3
  have HFI := hidq (show M.fitI i from ⟨hi1, hi2⟩)
  have HLF := hidq (show ∀ x ∈ L ++ [i], M.fitI x from fun x hx => by
    rcases List.mem_append.1 hx with h | h
    · exact u3.oks x h
    · rw [List.mem_singleton] at h; subst h; exact ⟨hi1, hi2⟩)
  have U1 := hidq u1
  have U2 := hidq u2
  have U3 := hidq u3
  have T1 := hidq trivial
  have T2 := hidq trivial
  have T3 := hidq trivial
  by_cases hfe : M.Few2 A H L
  · have HFE := hidq hfe
    obtain ⟨r, er, hC⟩ := chnA A H L
    have HC := hidq hC
    rcases hC with ⟨rfl, h1, h2, h3, hr⟩ | ⟨rfl, h, rfl⟩
    · cases r with
      | true =>
        have hch := hr.1 rfl
        have hn60 : L.length ≤ 60 := by
          have := hfe.2.2
          have := h3.1
          unfold M.Fw at *
          omega
        obtain ⟨rm, hrm, r1, r2, c, hc, hcn⟩ := M.tmod_cut cut L.length
        have HCC := hidq (show ChnA A H (L.take c) true 0 from .inl ⟨rfl, h1, h2, ⟨by rw [List.length_take]; omega, fun x hx => h3.2 x (List.mem_of_mem_take hx)⟩, ⟨fun _ => hch.take c, fun _ => rfl⟩⟩)
        have UC : Hid (∀ X, Below w.heap.size w X → Is X (.slice a3 c c3) (L.take c)) := by
          intro X hb
          by_cases hcap : 0 < c3
          · obtain ⟨b, off, rfl⟩ := q4 hcap
            have := Sl.part (u3.below hb) 0 c c3 (by omega) (by omega) (by omega) (by omega) (by omega)
            rw [List.drop_zero, Nat.sub_zero, Nat.zero_mul] at this
            exact this
          · have hn0 : L.length = 0 := by omega
            have hL0 : L = [] := List.eq_nil_of_length_eq_zero hn0
            have hc0 : c3 = 0 := by omega
            have hcc : c = 0 := by omega
            subst hL0 hc0 hcc
            exact Sl.empty
        obtain ⟨rb, er2, hC2⟩ := chnA A H (L ++ [i])
        obtain ⟨r3, er3, hK⟩ := knwA A H i
        have HC2 := hidq hC2
        have HK := hidq hK
        have hgood : (er2 = 1 ∧ rb = false) ∨ (er2 = 0 ∧ rb = false) ∨ (er2 = 0 ∧ rb = true ∧ er3 = 0 ∧ r3 = true) := by
          rcases hC2 with ⟨rfl, g1, g2, g3, g4⟩ | ⟨rfl, _, rfl⟩
          · cases rb with
            | false => exact .inr (.inl ⟨rfl, rfl⟩)
            | true =>
              have hkn := (g4.1 rfl).all g3.2 (x := i) (by simp)
              have hpl := g3.2 i (by simp)
              rcases hK with ⟨rfl, _, _, _, k4⟩ | ⟨_, k, _⟩
              · exact .inr (.inr ⟨rfl, rfl, rfl, k4.2 hkn⟩)
              · exact absurd ⟨g1, g2, hpl⟩ k
          · exact .inl ⟨rfl, rfl⟩
        have hw1 := wrap64 (x := (L.length : Int) + 1) (by omega) (by omega)
        have hw2 := wrap64 (x := rm) (by omega) (by omega)
        have hw3 := wrap64 (x := rm + L.length) (by omega) (by omega)
        have hw4 := wrap64 (x := rm + L.length + 1) (by omega) (by omega)
        have hw5 := wrap64 (x := (c : Int)) (by omega) (by omega)
        have hnz : ¬ (L.length : Int) + 1 = 0 := by omega
        have cc0 : (0 : Int) ≤ c := by omega
        have cc1 : (c : Int) ≤ c3 := by omega
        have k0 : c3 = 0 ∨ ¬ c3 = 0 := by omega
        clear hC2 hK hch hr h1 h2 h3 hfe u1 u2 u3 q4
        obtain ⟨hl2, hhl⟩ : ∃ hl2, H.length = hl2 := ⟨_, rfl⟩
        rw [hhl] at U2 ⊢
        clear hhl
        generalize hln : L.length = n at *
        have HLN := hidq hln
        clear hln
        rcases k0 with rfl | k0
        all_goals rcases hgood with ⟨rfl, rfl⟩ | ⟨rfl, rfl⟩ | ⟨rfl, rfl, rfl, rfl⟩
        all_goals go_enter Try.func9, Try.ntmps9
        all_goals go_wp2_with (first | (go_at_call 10; refine (klive_any _).mono ?_; rintro rr w1 ⟨rfl, hb1⟩; have B1 := hidq hb1; have sz1 := hb1.size; clear hb1) | (go_at_call 11; refine (few2_yes HFE.out _ ((U1.out.below B1.out).alloc _) (iss_two w1 _ (by simp) _ _ _ H (U2.out.below B1.out) _ _ _ L (U3.out.below B1.out))).mono ?_; rintro rr w2 ⟨rfl, hw2⟩; subst w2; have B2 := hidq (fun o => below_one (o := o) B1.out)) | (go_at_call 18; clear T1; refine (kis_any HC.out _ (U1.out.below (B2.out _)) (U2.out.below (B2.out _)) (U3.out.below (B2.out _))).mono ?_; rintro rr w3 ⟨rfl, hb3⟩; have B3 := hidq (below_trans (B2.out _) hb3); clear hb3) | (go_at_call 18; clear T2; refine (kis_any HCC.out _ (U1.out.below B3.out) (U2.out.below B3.out) (UC.out _ B3.out)).mono ?_; rintro rr w4 ⟨rfl, hb4⟩; have B4 := hidq (below_trans B3.out hb4); have sz4 := hb4.size; have sz3 := B3.out.size; clear hb4) | (at_builtin; clear T3; refine wpList_append_sl (E := elInt) rfl _ _ rfl w.heap.size _ _ [] rfl (World.ownsRow_nil _ _ _ _) _ L rfl (U3.out.below B4.out) (by rw [HLN.out]; omega) (by omega) ?_; intro v5 w5 hown5 hgrow5; have O5 := hidq hown5; have B5 := hidq (B4.out.grown hgrow5 (by omega) (fun q hq => by cases hq)); have sz5 := hgrow5.size; clear hown5 hgrow5) | (at_builtin; refine wpList_append_sl (E := elInt) rfl _ _ rfl w.heap.size _ _ ([] ++ L) rfl (O5.out.alloc _) _ [i] rfl (is_oneq _ _ (by simp) _ HFI.out) (by rw [HLN.out]; simp only [List.length_cons, List.length_nil]; omega) (by simp; omega) ?_; intro v6 w6 hown6 hgrow6; have I6 := hidq (show Is w6 v6 (L ++ [i]) from Sl.of_own (E := elInt) hown6 HLF.out); have B6 := hidq ((below_one (o := .cells #[.int .i64 i] 3) B5.out).grown hgrow6 (by simp; omega) (fun q hq => (O5.out.lt q hq).1)); clear hown6 hgrow6) | (go_at_call 18; refine (kis_any HC2.out _ (U1.out.below B6.out) (U2.out.below B6.out) I6.out).mono ?_; rintro rr w7 ⟨rfl, hb7⟩; have B7 := hidq (below_trans B6.out hb7); clear hb7) | (go_at_call 14; refine (kknows_any HFI.out HK.out _ (U1.out.below B7.out) (U2.out.below B7.out)).mono ?_; rintro rr w8 ⟨rfl, hb8⟩; have B8 := hidq (below_trans B7.out hb8); clear hb8))
        all_goals go_ret
        all_goals exact ⟨rfl, B8.out⟩
      | false =>
        clear hr h1 h2 h3 hfe u1 u2 u3 q4
        obtain ⟨hl2, hhl⟩ : ∃ hl2, H.length = hl2 := ⟨_, rfl⟩
        rw [hhl] at U2 ⊢
        clear hhl
        generalize L.length = n at *
        go_enter Try.func9, Try.ntmps9
        go_wp2_with (first | (go_at_call 10; refine (klive_any _).mono ?_; rintro rr w1 ⟨rfl, hb1⟩; have B1 := hidq hb1; have sz1 := hb1.size; clear hb1) | (go_at_call 11; refine (few2_yes HFE.out _ ((U1.out.below B1.out).alloc _) (iss_two w1 _ (by simp) _ _ _ H (U2.out.below B1.out) _ _ _ L (U3.out.below B1.out))).mono ?_; rintro rr w2 ⟨rfl, hw2⟩; subst w2; have B2 := hidq (fun o => below_one (o := o) B1.out)) | (go_at_call 18; clear T1; refine (kis_any HC.out _ (U1.out.below (B2.out _)) (U2.out.below (B2.out _)) (U3.out.below (B2.out _))).mono ?_; rintro rr w3 ⟨rfl, hb3⟩; have B3 := hidq (below_trans (B2.out _) hb3); clear hb3))
        go_ret
        exact ⟨rfl, B3.out⟩
    · clear h hfe u1 u2 u3 q4
      obtain ⟨hl2, hhl⟩ : ∃ hl2, H.length = hl2 := ⟨_, rfl⟩
      rw [hhl] at U2 ⊢
      clear hhl
      generalize L.length = n at *
      go_enter Try.func9, Try.ntmps9
      go_wp2_with (first | (go_at_call 10; refine (klive_any _).mono ?_; rintro rr w1 ⟨rfl, hb1⟩; have B1 := hidq hb1; have sz1 := hb1.size; clear hb1) | (go_at_call 11; refine (few2_yes HFE.out _ ((U1.out.below B1.out).alloc _) (iss_two w1 _ (by simp) _ _ _ H (U2.out.below B1.out) _ _ _ L (U3.out.below B1.out))).mono ?_; rintro rr w2 ⟨rfl, hw2⟩; subst w2; have B2 := hidq (fun o => below_one (o := o) B1.out)) | (go_at_call 18; clear T1; refine (kis_any HC.out _ (U1.out.below (B2.out _)) (U2.out.below (B2.out _)) (U3.out.below (B2.out _))).mono ?_; rintro rr w3 ⟨rfl, hb3⟩; have B3 := hidq (below_trans (B2.out _) hb3); clear hb3))
      go_ret
      exact ⟨rfl, B3.out⟩
  · have HFE := hidq hfe
    clear hfe u1 u2 u3 q4
    go_enter Try.func9, Try.ntmps9
    go_wp2_with (first | (go_at_call 10; refine (klive_any _).mono ?_; rintro rr w1 ⟨rfl, hb1⟩; have B1 := hidq hb1; have sz1 := hb1.size; clear hb1) | (go_at_call 11; refine (few2_no HFE.out _ ((U1.out.below B1.out).alloc _) (iss_two w1 _ (by simp) _ _ _ H (U2.out.below B1.out) _ _ _ L (U3.out.below B1.out))).mono ?_; rintro rr w2 ⟨rfl, hw2⟩; subst w2))
    go_ret
    exact ⟨rfl, below_one B1.out⟩
end Go.Proofs.Ythkkclhjpgkhaaa
