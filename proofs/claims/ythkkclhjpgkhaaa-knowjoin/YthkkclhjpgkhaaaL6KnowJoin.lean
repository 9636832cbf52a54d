/-
  The walk of KnowJoin at every input. Conditions: the slices hold terms, and places.
-/
import Derived.Test.YthkkclhjpgkhaaaL60
namespace Go.Proofs.Ythkkclhjpgkhaaa
open Go.RowKit
theorem M.okL_two {A : List M.Tm} {H L : List Int} (h : M.Few2 A H L) (h1 : M.okL A H) (h2 : M.okL A L) : M.okL A (H ++ L) ∧ H.length ≤ 60 ∧ L.length ≤ 60 := by
  have f1 := h.2.1
  have f2 := h.2.2
  have l1 := h1.1
  have l2 := h2.1
  unfold M.Fw at f1 f2
  refine ⟨⟨by rw [List.length_append]; omega, fun x hx => ?_⟩, by omega, by omega⟩
  rcases List.mem_append.1 hx with h | h
  · exact h1.2 x h
  · exact h2.2 x h
theorem join_all {A : List M.Tm} {H L : List Int} {i : Int} {x y z : Bool} (hx : x = true ↔ M.Kn A H i) (hy : y = true ↔ M.Kn A L i) (hz : z = true ↔ M.Kn A (H ++ L) i) (h : ∀ k ∈ L, M.Kn A H k) : z = x ∧ (y = true → x = true) := by
  refine ⟨?_, fun h' => hx.2 ((hy.1 h').mono h)⟩
  rw [Bool.eq_iff_iff, hz, hx]
  exact ⟨fun h' => h'.mono fun k hk => by
    rcases List.mem_append.1 hk with hk | hk
    · exact .base hk
    · exact h k hk, fun h' => h'.sub fun k hk => List.mem_append_left _ hk⟩
set_option maxRecDepth 100000 in
set_option maxHeartbeats 4000000 in
theorem knowJoin_walk (A : List M.Tm) (v1 : Value) (H : List Int) (v2 : Value) (L : List Int) (v3 : Value) (i : Int) (w : World) (u1 : Ts w v1 A) (u2 : Is w v2 H) (u3 : Is w v3 L) (hi1 : -9223372036854775808 ≤ i) (hi2 : i ≤ 9223372036854775807) :
    Calls Try.prog 8 #[v1, v2, v3, .int .i64 i] w fun e w' => e = .returned (.bool true) ∧ Below w.heap.size w w' := by
  obtain ⟨a2, c2, rfl, p1, p2, _⟩ := u2.form
  obtain ⟨a3, c3, rfl, q1, q2, q4⟩ := u3.form
  have hm3 : L.length ≤ maxLen := by omega
  unfold maxLen at hm3
  have HFI := hidq (show M.fitI i from ⟨hi1, hi2⟩)
  have HLF := hidq (show ∀ x ∈ H ++ L, M.fitI x from fun x hx => by
    rcases List.mem_append.1 hx with h | h
    · exact u2.oks x h
    · exact u3.oks x h)
  have U1 := hidq u1
  have U2 := hidq u2
  have U3 := hidq u3
  have HQ4 := hidq q4
  have T1 := hidq trivial
  have T2 := hidq trivial
  have T3 := hidq trivial
  clear u1 u2 u3 q4
  by_cases hfe : M.Few2 A H L
  · have HFE := hidq hfe
    have HFW := hidq (show H.length ≤ 65545 ∧ L.length ≤ 65545 by
      have f1 := hfe.2.1
      have f2 := hfe.2.2
      unfold M.Fw at f1 f2
      omega)
    obtain ⟨x, e, hX⟩ := knwA A H i
    obtain ⟨y, f, hY⟩ := knwA A L i
    obtain ⟨z, g, hZ⟩ := knwA A (H ++ L) i
    have HX := hidq hX
    have HY := hidq hY
    have HZ := hidq hZ
    rcases hX with ⟨rfl, x1, x2, x3, hx⟩ | ⟨rfl, _, rfl⟩
    · rcases hY with ⟨rfl, _, y2, _, hy⟩ | ⟨rfl, _, rfl⟩
      · have hok := (M.okL_two hfe x2 y2).1
        rcases hZ with ⟨rfl, _, _, _, hz⟩ | ⟨_, hno, _⟩
        · obtain ⟨K, er, hA⟩ := allA A H
          have HAL := hidq hA
          rcases hA with ⟨rfl, _, _, fk, hfk, rfl⟩ | ⟨_, hno, _⟩
          · have HMK := hidq (M.mem_outL x2.2 hfk)
            have hl := x1.1
            have HKF := hidq (show ∀ x ∈ M.outL fk A.length, M.fitI x from fun x hx => by obtain ⟨j, hj, _, rfl⟩ := (M.outL_mem _ _ _).1 hx; exact ⟨by omega, by omega⟩)
            have hkl := M.outL_len fk A.length
            generalize M.outL fk A.length = K at *
            have HJ := hidq (fun h => join_all hx hy hz (show ∀ k ∈ L, M.Kn A H k from h))
            have hxz : x = true → z = true := fun h => hz.2 ((hx.1 h).sub fun k hk => List.mem_append_left _ hk)
            have hyz : y = true → z = true := fun h => hz.2 ((hy.1 h).sub fun k hk => List.mem_append_right _ hk)
            clear hfe x1 x2 x3 hx y2 hy hok hz hfk
            generalize hln : L.length = n at *
            have HLN := hidq hln
            clear hln
            obtain ⟨hh, hhl⟩ : ∃ hh, H.length = hh := ⟨_, rfl⟩
            rw [hhl] at U2 ⊢
            have HHL := hidq hhl
            clear hhl
            generalize hkl2 : K.length = kl at *
            have HKL := hidq hkl2
            clear hkl2
            cases x with
            | true =>
              cases y with
              | true =>
                cases z with
                | true =>
                  clear hxz hyz
                  go_enter Try.func8, Try.ntmps8
                  go_wp2_with (first | (go_at_call 10; refine (klive_any _).mono ?_; rintro rr w1 ⟨rfl, hb1⟩; have B1 := hidq hb1; have sz1 := hb1.size; clear hb1) | (go_at_call 11; refine (few2_yes HFE.out _ ((U1.out.below B1.out).alloc _) (iss_two w1 _ (by simp) _ _ _ H (U2.out.below B1.out) _ _ _ L (U3.out.below B1.out))).mono ?_; rintro rr w2 ⟨rfl, hw2⟩; subst w2; have B2 := hidq (fun o => below_one (o := o) B1.out)) | (go_at_call 14; clear T1; refine (kknows_any HFI.out HX.out _ (U1.out.below (B2.out _)) (U2.out.below (B2.out _))).mono ?_; rintro rr w3 ⟨rfl, hb3⟩; have B3 := hidq (below_trans (B2.out _) hb3); clear hb3) | (go_at_call 14; clear T2; refine (kknows_any HFI.out HY.out _ (U1.out.below B3.out) (U3.out.below B3.out)).mono ?_; rintro rr w4 ⟨rfl, hb4⟩; have B4 := hidq (below_trans B3.out hb4); have sz4 := B4.out.size; clear hb4) | (at_builtin; clear T3; refine wpList_append_sl (E := elInt) rfl _ _ rfl w.heap.size _ _ [] rfl (World.ownsRow_nil _ _ _ _) _ H rfl (U2.out.below B4.out) (by have := HFW.out; have := HLN.out; omega) (by omega) ?_; intro v5 w5 hown5 hgrow5; have O5 := hidq hown5; have B5 := hidq (B4.out.grown hgrow5 (by omega) (fun q hq => by cases hq)); have sz5 := hgrow5.size; clear hown5 hgrow5) | (at_builtin; refine wpList_append_sl (E := elInt) rfl _ _ rfl w.heap.size _ _ ([] ++ H) rfl O5.out _ L rfl (U3.out.below B5.out) (by have := HFW.out; have := HLN.out; omega) (by omega) ?_; intro v6 w6 hown6 hgrow6; have I6 := hidq (show Is w6 v6 (H ++ L) from Sl.of_own (E := elInt) hown6 HLF.out); have B6 := hidq (B5.out.grown hgrow6 (by omega) (fun q hq => (O5.out.lt q hq).1)); clear hown6 hgrow6) | (go_at_call 14; refine (kknows_any HFI.out HZ.out _ (U1.out.below B6.out) I6.out).mono ?_; rintro rr w7 ⟨rfl, hb7⟩; have B7 := hidq (below_trans B6.out hb7); clear hb7) | (go_at_call 12; refine (kall_any HAL.out _ (U1.out.below B7.out) (U2.out.below B7.out)).mono ?_; rintro rr w8 ⟨v8, rfl, ho8, hb8⟩; have hI8 : Is w8 v8 K := Sl.of_own (E := elInt) ho8 HKF.out; obtain ⟨a8, c8, rfl, z1, z2, z4⟩ := hI8.form; rw [HKL.out] at hI8 z1 ⊢; have I8 := hidq hI8; have Z4 := hidq z4; clear hI8 z4; have B8 := hidq (below_trans B7.out hb8); clear ho8 hb8))
                  go_loop [88] (fun s => ∃ k : Nat, k ≤ n ∧ s = .int .i64 k ∧ ∀ y ∈ L.take k, y ∈ K) (fun s => n - (intOf s).toNat)
                  case atStart => exact ⟨0, by omega, rfl, by simp⟩
                  case round =>
                    obtain ⟨k, hk, rfl, hall⟩ := hrel
                    have HALL := hidq hall
                    clear hall
                    by_cases hlt : k < n
                    · obtain ⟨b3, o3, rfl⟩ := HQ4.out (by omega)
                      have hkl3 : k < L.length := by rw [HLN.out]; exact hlt
                      obtain ⟨y0, hy0⟩ : ∃ y0, L[k]? = some y0 := ⟨_, List.getElem?_eq_getElem hkl3⟩
                      have cy := Is.cellq (U3.out.below B8.out) hy0
                      have HNX := hidq (show L.take (k + 1) = L.take k ++ [y0] by
                        rw [List.take_succ_eq_append_getElem hkl3]
                        rw [List.getElem?_eq_getElem hkl3] at hy0
                        rw [Option.some.inj hy0])
                      clear hy0 hkl3
                      go_wp2
                      go_loop [94, 20] (fun s t => ∃ j : Nat, j ≤ kl ∧ s = .int .i64 j ∧ t = .bool (decide (y0 ∈ K.take j))) (fun s _ => kl - (intOf s).toNat)
                      case atStart => exact ⟨0, by omega, rfl, by simp⟩
                      case round =>
                        obtain ⟨j, hj, rfl, rfl⟩ := hrel
                        obtain ⟨hs, hhs⟩ : ∃ hs, decide (y0 ∈ K.take j) = hs := ⟨_, rfl⟩
                        rw [hhs]
                        have HHS := hidq hhs
                        clear hhs
                        by_cases hjl : j < kl
                        · obtain ⟨b8, o8, rfl⟩ := Z4.out (by omega)
                          have hjk : j < K.length := by rw [HKL.out]; exact hjl
                          obtain ⟨q, hq⟩ : ∃ q, K[j]? = some q := ⟨_, List.getElem?_eq_getElem hjk⟩
                          have cq := Is.cellq I8.out hq
                          have HQX := hidq (show decide (y0 ∈ K.take (j + 1)) = (hs || decide (q = y0)) by
                            rw [List.take_succ_eq_append_getElem hjk]
                            rw [List.getElem?_eq_getElem hjk] at hq
                            rw [Option.some.inj hq, ← HHS.out]
                            simp [Bool.decide_or, eq_comm])
                          clear hq hjk
                          cases hs with
                          | true =>
                            have HQ2 := hidq (show decide (y0 ∈ K.take (j + 1)) = true by rw [HQX.out]; rfl)
                            go_wp2
                            go_round
                            case rel => exact ⟨j + 1, by omega, by go_num, by rw [HQ2.out]⟩
                            case measure => simp [intOf]; omega
                          | false =>
                            by_cases e : q = y0
                            · subst e
                              have HQ2 := hidq (show decide (q ∈ K.take (j + 1)) = true by rw [HQX.out]; simp)
                              go_wp2
                              go_round
                              case rel => exact ⟨j + 1, by omega, by go_num, by rw [HQ2.out]⟩
                              case measure => simp [intOf]; omega
                            · have HQ2 := hidq (show decide (y0 ∈ K.take (j + 1)) = false by rw [HQX.out]; simp [e])
                              have e2 : (q == y0) = false := beq_eq_false_iff_ne.2 e
                              go_wp2
                              go_round
                              case rel => exact ⟨j + 1, by omega, by go_num, by rw [HQ2.out]⟩
                              case measure => simp [intOf]; omega
                        · have HHS2 := hidq (show decide (y0 ∈ K) = hs by
                            have h1 := HHS.out
                            rw [List.take_of_length_le (by rw [HKL.out]; omega)] at h1
                            exact h1)
                          cases hs with
                          | true =>
                            go_wp2
                            go_round
                            case rel => exact ⟨k + 1, by omega, by go_num, fun y hy => by
                              rw [HNX.out, List.mem_append, List.mem_singleton] at hy
                              rcases hy with hy | rfl
                              · exact HALL.out y hy
                              · exact of_decide_eq_true HHS2.out⟩
                            case measure => simp [intOf]; omega
                          | false =>
                            go_wp2
                            go_ret
                            exact ⟨rfl, B8.out⟩
                    · have hj := HJ.out fun y hy => (HMK.out y).1 (HALL.out y (by rw [List.take_of_length_le (by rw [HLN.out]; omega)]; exact hy))
                      first
                      | (exfalso; revert hj; decide)
                      | (clear hj; go_wp2; go_ret; exact ⟨rfl, B8.out⟩)
                | false =>
                  first | (have := hxz rfl; cases this) | (have := hyz rfl; cases this)
              | false =>
                cases z with
                | true =>
                  clear hxz hyz
                  go_enter Try.func8, Try.ntmps8
                  go_wp2_with (first | (go_at_call 10; refine (klive_any _).mono ?_; rintro rr w1 ⟨rfl, hb1⟩; have B1 := hidq hb1; have sz1 := hb1.size; clear hb1) | (go_at_call 11; refine (few2_yes HFE.out _ ((U1.out.below B1.out).alloc _) (iss_two w1 _ (by simp) _ _ _ H (U2.out.below B1.out) _ _ _ L (U3.out.below B1.out))).mono ?_; rintro rr w2 ⟨rfl, hw2⟩; subst w2; have B2 := hidq (fun o => below_one (o := o) B1.out)) | (go_at_call 14; clear T1; refine (kknows_any HFI.out HX.out _ (U1.out.below (B2.out _)) (U2.out.below (B2.out _))).mono ?_; rintro rr w3 ⟨rfl, hb3⟩; have B3 := hidq (below_trans (B2.out _) hb3); clear hb3) | (go_at_call 14; clear T2; refine (kknows_any HFI.out HY.out _ (U1.out.below B3.out) (U3.out.below B3.out)).mono ?_; rintro rr w4 ⟨rfl, hb4⟩; have B4 := hidq (below_trans B3.out hb4); have sz4 := B4.out.size; clear hb4) | (at_builtin; clear T3; refine wpList_append_sl (E := elInt) rfl _ _ rfl w.heap.size _ _ [] rfl (World.ownsRow_nil _ _ _ _) _ H rfl (U2.out.below B4.out) (by have := HFW.out; have := HLN.out; omega) (by omega) ?_; intro v5 w5 hown5 hgrow5; have O5 := hidq hown5; have B5 := hidq (B4.out.grown hgrow5 (by omega) (fun q hq => by cases hq)); have sz5 := hgrow5.size; clear hown5 hgrow5) | (at_builtin; refine wpList_append_sl (E := elInt) rfl _ _ rfl w.heap.size _ _ ([] ++ H) rfl O5.out _ L rfl (U3.out.below B5.out) (by have := HFW.out; have := HLN.out; omega) (by omega) ?_; intro v6 w6 hown6 hgrow6; have I6 := hidq (show Is w6 v6 (H ++ L) from Sl.of_own (E := elInt) hown6 HLF.out); have B6 := hidq (B5.out.grown hgrow6 (by omega) (fun q hq => (O5.out.lt q hq).1)); clear hown6 hgrow6) | (go_at_call 14; refine (kknows_any HFI.out HZ.out _ (U1.out.below B6.out) I6.out).mono ?_; rintro rr w7 ⟨rfl, hb7⟩; have B7 := hidq (below_trans B6.out hb7); clear hb7) | (go_at_call 12; refine (kall_any HAL.out _ (U1.out.below B7.out) (U2.out.below B7.out)).mono ?_; rintro rr w8 ⟨v8, rfl, ho8, hb8⟩; have hI8 : Is w8 v8 K := Sl.of_own (E := elInt) ho8 HKF.out; obtain ⟨a8, c8, rfl, z1, z2, z4⟩ := hI8.form; rw [HKL.out] at hI8 z1 ⊢; have I8 := hidq hI8; have Z4 := hidq z4; clear hI8 z4; have B8 := hidq (below_trans B7.out hb8); clear ho8 hb8))
                  go_loop [88] (fun s => ∃ k : Nat, k ≤ n ∧ s = .int .i64 k ∧ ∀ y ∈ L.take k, y ∈ K) (fun s => n - (intOf s).toNat)
                  case atStart => exact ⟨0, by omega, rfl, by simp⟩
                  case round =>
                    obtain ⟨k, hk, rfl, hall⟩ := hrel
                    have HALL := hidq hall
                    clear hall
                    by_cases hlt : k < n
                    · obtain ⟨b3, o3, rfl⟩ := HQ4.out (by omega)
                      have hkl3 : k < L.length := by rw [HLN.out]; exact hlt
                      obtain ⟨y0, hy0⟩ : ∃ y0, L[k]? = some y0 := ⟨_, List.getElem?_eq_getElem hkl3⟩
                      have cy := Is.cellq (U3.out.below B8.out) hy0
                      have HNX := hidq (show L.take (k + 1) = L.take k ++ [y0] by
                        rw [List.take_succ_eq_append_getElem hkl3]
                        rw [List.getElem?_eq_getElem hkl3] at hy0
                        rw [Option.some.inj hy0])
                      clear hy0 hkl3
                      go_wp2
                      go_loop [94, 20] (fun s t => ∃ j : Nat, j ≤ kl ∧ s = .int .i64 j ∧ t = .bool (decide (y0 ∈ K.take j))) (fun s _ => kl - (intOf s).toNat)
                      case atStart => exact ⟨0, by omega, rfl, by simp⟩
                      case round =>
                        obtain ⟨j, hj, rfl, rfl⟩ := hrel
                        obtain ⟨hs, hhs⟩ : ∃ hs, decide (y0 ∈ K.take j) = hs := ⟨_, rfl⟩
                        rw [hhs]
                        have HHS := hidq hhs
                        clear hhs
                        by_cases hjl : j < kl
                        · obtain ⟨b8, o8, rfl⟩ := Z4.out (by omega)
                          have hjk : j < K.length := by rw [HKL.out]; exact hjl
                          obtain ⟨q, hq⟩ : ∃ q, K[j]? = some q := ⟨_, List.getElem?_eq_getElem hjk⟩
                          have cq := Is.cellq I8.out hq
                          have HQX := hidq (show decide (y0 ∈ K.take (j + 1)) = (hs || decide (q = y0)) by
                            rw [List.take_succ_eq_append_getElem hjk]
                            rw [List.getElem?_eq_getElem hjk] at hq
                            rw [Option.some.inj hq, ← HHS.out]
                            simp [Bool.decide_or, eq_comm])
                          clear hq hjk
                          cases hs with
                          | true =>
                            have HQ2 := hidq (show decide (y0 ∈ K.take (j + 1)) = true by rw [HQX.out]; rfl)
                            go_wp2
                            go_round
                            case rel => exact ⟨j + 1, by omega, by go_num, by rw [HQ2.out]⟩
                            case measure => simp [intOf]; omega
                          | false =>
                            by_cases e : q = y0
                            · subst e
                              have HQ2 := hidq (show decide (q ∈ K.take (j + 1)) = true by rw [HQX.out]; simp)
                              go_wp2
                              go_round
                              case rel => exact ⟨j + 1, by omega, by go_num, by rw [HQ2.out]⟩
                              case measure => simp [intOf]; omega
                            · have HQ2 := hidq (show decide (y0 ∈ K.take (j + 1)) = false by rw [HQX.out]; simp [e])
                              have e2 : (q == y0) = false := beq_eq_false_iff_ne.2 e
                              go_wp2
                              go_round
                              case rel => exact ⟨j + 1, by omega, by go_num, by rw [HQ2.out]⟩
                              case measure => simp [intOf]; omega
                        · have HHS2 := hidq (show decide (y0 ∈ K) = hs by
                            have h1 := HHS.out
                            rw [List.take_of_length_le (by rw [HKL.out]; omega)] at h1
                            exact h1)
                          cases hs with
                          | true =>
                            go_wp2
                            go_round
                            case rel => exact ⟨k + 1, by omega, by go_num, fun y hy => by
                              rw [HNX.out, List.mem_append, List.mem_singleton] at hy
                              rcases hy with hy | rfl
                              · exact HALL.out y hy
                              · exact of_decide_eq_true HHS2.out⟩
                            case measure => simp [intOf]; omega
                          | false =>
                            go_wp2
                            go_ret
                            exact ⟨rfl, B8.out⟩
                    · have hj := HJ.out fun y hy => (HMK.out y).1 (HALL.out y (by rw [List.take_of_length_le (by rw [HLN.out]; omega)]; exact hy))
                      first
                      | (exfalso; revert hj; decide)
                      | (clear hj; go_wp2; go_ret; exact ⟨rfl, B8.out⟩)
                | false =>
                  first | (have := hxz rfl; cases this) | (have := hyz rfl; cases this)
            | false =>
              cases y with
              | true =>
                cases z with
                | true =>
                  clear hxz hyz
                  go_enter Try.func8, Try.ntmps8
                  go_wp2_with (first | (go_at_call 10; refine (klive_any _).mono ?_; rintro rr w1 ⟨rfl, hb1⟩; have B1 := hidq hb1; have sz1 := hb1.size; clear hb1) | (go_at_call 11; refine (few2_yes HFE.out _ ((U1.out.below B1.out).alloc _) (iss_two w1 _ (by simp) _ _ _ H (U2.out.below B1.out) _ _ _ L (U3.out.below B1.out))).mono ?_; rintro rr w2 ⟨rfl, hw2⟩; subst w2; have B2 := hidq (fun o => below_one (o := o) B1.out)) | (go_at_call 14; clear T1; refine (kknows_any HFI.out HX.out _ (U1.out.below (B2.out _)) (U2.out.below (B2.out _))).mono ?_; rintro rr w3 ⟨rfl, hb3⟩; have B3 := hidq (below_trans (B2.out _) hb3); clear hb3) | (go_at_call 14; clear T2; refine (kknows_any HFI.out HY.out _ (U1.out.below B3.out) (U3.out.below B3.out)).mono ?_; rintro rr w4 ⟨rfl, hb4⟩; have B4 := hidq (below_trans B3.out hb4); have sz4 := B4.out.size; clear hb4) | (at_builtin; clear T3; refine wpList_append_sl (E := elInt) rfl _ _ rfl w.heap.size _ _ [] rfl (World.ownsRow_nil _ _ _ _) _ H rfl (U2.out.below B4.out) (by have := HFW.out; have := HLN.out; omega) (by omega) ?_; intro v5 w5 hown5 hgrow5; have O5 := hidq hown5; have B5 := hidq (B4.out.grown hgrow5 (by omega) (fun q hq => by cases hq)); have sz5 := hgrow5.size; clear hown5 hgrow5) | (at_builtin; refine wpList_append_sl (E := elInt) rfl _ _ rfl w.heap.size _ _ ([] ++ H) rfl O5.out _ L rfl (U3.out.below B5.out) (by have := HFW.out; have := HLN.out; omega) (by omega) ?_; intro v6 w6 hown6 hgrow6; have I6 := hidq (show Is w6 v6 (H ++ L) from Sl.of_own (E := elInt) hown6 HLF.out); have B6 := hidq (B5.out.grown hgrow6 (by omega) (fun q hq => (O5.out.lt q hq).1)); clear hown6 hgrow6) | (go_at_call 14; refine (kknows_any HFI.out HZ.out _ (U1.out.below B6.out) I6.out).mono ?_; rintro rr w7 ⟨rfl, hb7⟩; have B7 := hidq (below_trans B6.out hb7); clear hb7) | (go_at_call 12; refine (kall_any HAL.out _ (U1.out.below B7.out) (U2.out.below B7.out)).mono ?_; rintro rr w8 ⟨v8, rfl, ho8, hb8⟩; have hI8 : Is w8 v8 K := Sl.of_own (E := elInt) ho8 HKF.out; obtain ⟨a8, c8, rfl, z1, z2, z4⟩ := hI8.form; rw [HKL.out] at hI8 z1 ⊢; have I8 := hidq hI8; have Z4 := hidq z4; clear hI8 z4; have B8 := hidq (below_trans B7.out hb8); clear ho8 hb8))
                  go_loop [88] (fun s => ∃ k : Nat, k ≤ n ∧ s = .int .i64 k ∧ ∀ y ∈ L.take k, y ∈ K) (fun s => n - (intOf s).toNat)
                  case atStart => exact ⟨0, by omega, rfl, by simp⟩
                  case round =>
                    obtain ⟨k, hk, rfl, hall⟩ := hrel
                    have HALL := hidq hall
                    clear hall
                    by_cases hlt : k < n
                    · obtain ⟨b3, o3, rfl⟩ := HQ4.out (by omega)
                      have hkl3 : k < L.length := by rw [HLN.out]; exact hlt
                      obtain ⟨y0, hy0⟩ : ∃ y0, L[k]? = some y0 := ⟨_, List.getElem?_eq_getElem hkl3⟩
                      have cy := Is.cellq (U3.out.below B8.out) hy0
                      have HNX := hidq (show L.take (k + 1) = L.take k ++ [y0] by
                        rw [List.take_succ_eq_append_getElem hkl3]
                        rw [List.getElem?_eq_getElem hkl3] at hy0
                        rw [Option.some.inj hy0])
                      clear hy0 hkl3
                      go_wp2
                      go_loop [94, 20] (fun s t => ∃ j : Nat, j ≤ kl ∧ s = .int .i64 j ∧ t = .bool (decide (y0 ∈ K.take j))) (fun s _ => kl - (intOf s).toNat)
                      case atStart => exact ⟨0, by omega, rfl, by simp⟩
                      case round =>
                        obtain ⟨j, hj, rfl, rfl⟩ := hrel
                        obtain ⟨hs, hhs⟩ : ∃ hs, decide (y0 ∈ K.take j) = hs := ⟨_, rfl⟩
                        rw [hhs]
                        have HHS := hidq hhs
                        clear hhs
                        by_cases hjl : j < kl
                        · obtain ⟨b8, o8, rfl⟩ := Z4.out (by omega)
                          have hjk : j < K.length := by rw [HKL.out]; exact hjl
                          obtain ⟨q, hq⟩ : ∃ q, K[j]? = some q := ⟨_, List.getElem?_eq_getElem hjk⟩
                          have cq := Is.cellq I8.out hq
                          have HQX := hidq (show decide (y0 ∈ K.take (j + 1)) = (hs || decide (q = y0)) by
                            rw [List.take_succ_eq_append_getElem hjk]
                            rw [List.getElem?_eq_getElem hjk] at hq
                            rw [Option.some.inj hq, ← HHS.out]
                            simp [Bool.decide_or, eq_comm])
                          clear hq hjk
                          cases hs with
                          | true =>
                            have HQ2 := hidq (show decide (y0 ∈ K.take (j + 1)) = true by rw [HQX.out]; rfl)
                            go_wp2
                            go_round
                            case rel => exact ⟨j + 1, by omega, by go_num, by rw [HQ2.out]⟩
                            case measure => simp [intOf]; omega
                          | false =>
                            by_cases e : q = y0
                            · subst e
                              have HQ2 := hidq (show decide (q ∈ K.take (j + 1)) = true by rw [HQX.out]; simp)
                              go_wp2
                              go_round
                              case rel => exact ⟨j + 1, by omega, by go_num, by rw [HQ2.out]⟩
                              case measure => simp [intOf]; omega
                            · have HQ2 := hidq (show decide (y0 ∈ K.take (j + 1)) = false by rw [HQX.out]; simp [e])
                              have e2 : (q == y0) = false := beq_eq_false_iff_ne.2 e
                              go_wp2
                              go_round
                              case rel => exact ⟨j + 1, by omega, by go_num, by rw [HQ2.out]⟩
                              case measure => simp [intOf]; omega
                        · have HHS2 := hidq (show decide (y0 ∈ K) = hs by
                            have h1 := HHS.out
                            rw [List.take_of_length_le (by rw [HKL.out]; omega)] at h1
                            exact h1)
                          cases hs with
                          | true =>
                            go_wp2
                            go_round
                            case rel => exact ⟨k + 1, by omega, by go_num, fun y hy => by
                              rw [HNX.out, List.mem_append, List.mem_singleton] at hy
                              rcases hy with hy | rfl
                              · exact HALL.out y hy
                              · exact of_decide_eq_true HHS2.out⟩
                            case measure => simp [intOf]; omega
                          | false =>
                            go_wp2
                            go_ret
                            exact ⟨rfl, B8.out⟩
                    · have hj := HJ.out fun y hy => (HMK.out y).1 (HALL.out y (by rw [List.take_of_length_le (by rw [HLN.out]; omega)]; exact hy))
                      first
                      | (exfalso; revert hj; decide)
                      | (clear hj; go_wp2; go_ret; exact ⟨rfl, B8.out⟩)
                | false =>
                  first | (have := hxz rfl; cases this) | (have := hyz rfl; cases this)
              | false =>
                cases z with
                | true =>
                  clear hxz hyz
                  go_enter Try.func8, Try.ntmps8
                  go_wp2_with (first | (go_at_call 10; refine (klive_any _).mono ?_; rintro rr w1 ⟨rfl, hb1⟩; have B1 := hidq hb1; have sz1 := hb1.size; clear hb1) | (go_at_call 11; refine (few2_yes HFE.out _ ((U1.out.below B1.out).alloc _) (iss_two w1 _ (by simp) _ _ _ H (U2.out.below B1.out) _ _ _ L (U3.out.below B1.out))).mono ?_; rintro rr w2 ⟨rfl, hw2⟩; subst w2; have B2 := hidq (fun o => below_one (o := o) B1.out)) | (go_at_call 14; clear T1; refine (kknows_any HFI.out HX.out _ (U1.out.below (B2.out _)) (U2.out.below (B2.out _))).mono ?_; rintro rr w3 ⟨rfl, hb3⟩; have B3 := hidq (below_trans (B2.out _) hb3); clear hb3) | (go_at_call 14; clear T2; refine (kknows_any HFI.out HY.out _ (U1.out.below B3.out) (U3.out.below B3.out)).mono ?_; rintro rr w4 ⟨rfl, hb4⟩; have B4 := hidq (below_trans B3.out hb4); have sz4 := B4.out.size; clear hb4) | (at_builtin; clear T3; refine wpList_append_sl (E := elInt) rfl _ _ rfl w.heap.size _ _ [] rfl (World.ownsRow_nil _ _ _ _) _ H rfl (U2.out.below B4.out) (by have := HFW.out; have := HLN.out; omega) (by omega) ?_; intro v5 w5 hown5 hgrow5; have O5 := hidq hown5; have B5 := hidq (B4.out.grown hgrow5 (by omega) (fun q hq => by cases hq)); have sz5 := hgrow5.size; clear hown5 hgrow5) | (at_builtin; refine wpList_append_sl (E := elInt) rfl _ _ rfl w.heap.size _ _ ([] ++ H) rfl O5.out _ L rfl (U3.out.below B5.out) (by have := HFW.out; have := HLN.out; omega) (by omega) ?_; intro v6 w6 hown6 hgrow6; have I6 := hidq (show Is w6 v6 (H ++ L) from Sl.of_own (E := elInt) hown6 HLF.out); have B6 := hidq (B5.out.grown hgrow6 (by omega) (fun q hq => (O5.out.lt q hq).1)); clear hown6 hgrow6) | (go_at_call 14; refine (kknows_any HFI.out HZ.out _ (U1.out.below B6.out) I6.out).mono ?_; rintro rr w7 ⟨rfl, hb7⟩; have B7 := hidq (below_trans B6.out hb7); clear hb7) | (go_at_call 12; refine (kall_any HAL.out _ (U1.out.below B7.out) (U2.out.below B7.out)).mono ?_; rintro rr w8 ⟨v8, rfl, ho8, hb8⟩; have hI8 : Is w8 v8 K := Sl.of_own (E := elInt) ho8 HKF.out; obtain ⟨a8, c8, rfl, z1, z2, z4⟩ := hI8.form; rw [HKL.out] at hI8 z1 ⊢; have I8 := hidq hI8; have Z4 := hidq z4; clear hI8 z4; have B8 := hidq (below_trans B7.out hb8); clear ho8 hb8))
                  go_loop [88] (fun s => ∃ k : Nat, k ≤ n ∧ s = .int .i64 k ∧ ∀ y ∈ L.take k, y ∈ K) (fun s => n - (intOf s).toNat)
                  case atStart => exact ⟨0, by omega, rfl, by simp⟩
                  case round =>
                    obtain ⟨k, hk, rfl, hall⟩ := hrel
                    have HALL := hidq hall
                    clear hall
                    by_cases hlt : k < n
                    · obtain ⟨b3, o3, rfl⟩ := HQ4.out (by omega)
                      have hkl3 : k < L.length := by rw [HLN.out]; exact hlt
                      obtain ⟨y0, hy0⟩ : ∃ y0, L[k]? = some y0 := ⟨_, List.getElem?_eq_getElem hkl3⟩
                      have cy := Is.cellq (U3.out.below B8.out) hy0
                      have HNX := hidq (show L.take (k + 1) = L.take k ++ [y0] by
                        rw [List.take_succ_eq_append_getElem hkl3]
                        rw [List.getElem?_eq_getElem hkl3] at hy0
                        rw [Option.some.inj hy0])
                      clear hy0 hkl3
                      go_wp2
                      go_loop [94, 20] (fun s t => ∃ j : Nat, j ≤ kl ∧ s = .int .i64 j ∧ t = .bool (decide (y0 ∈ K.take j))) (fun s _ => kl - (intOf s).toNat)
                      case atStart => exact ⟨0, by omega, rfl, by simp⟩
                      case round =>
                        obtain ⟨j, hj, rfl, rfl⟩ := hrel
                        obtain ⟨hs, hhs⟩ : ∃ hs, decide (y0 ∈ K.take j) = hs := ⟨_, rfl⟩
                        rw [hhs]
                        have HHS := hidq hhs
                        clear hhs
                        by_cases hjl : j < kl
                        · obtain ⟨b8, o8, rfl⟩ := Z4.out (by omega)
                          have hjk : j < K.length := by rw [HKL.out]; exact hjl
                          obtain ⟨q, hq⟩ : ∃ q, K[j]? = some q := ⟨_, List.getElem?_eq_getElem hjk⟩
                          have cq := Is.cellq I8.out hq
                          have HQX := hidq (show decide (y0 ∈ K.take (j + 1)) = (hs || decide (q = y0)) by
                            rw [List.take_succ_eq_append_getElem hjk]
                            rw [List.getElem?_eq_getElem hjk] at hq
                            rw [Option.some.inj hq, ← HHS.out]
                            simp [Bool.decide_or, eq_comm])
                          clear hq hjk
                          cases hs with
                          | true =>
                            have HQ2 := hidq (show decide (y0 ∈ K.take (j + 1)) = true by rw [HQX.out]; rfl)
                            go_wp2
                            go_round
                            case rel => exact ⟨j + 1, by omega, by go_num, by rw [HQ2.out]⟩
                            case measure => simp [intOf]; omega
                          | false =>
                            by_cases e : q = y0
                            · subst e
                              have HQ2 := hidq (show decide (q ∈ K.take (j + 1)) = true by rw [HQX.out]; simp)
                              go_wp2
                              go_round
                              case rel => exact ⟨j + 1, by omega, by go_num, by rw [HQ2.out]⟩
                              case measure => simp [intOf]; omega
                            · have HQ2 := hidq (show decide (y0 ∈ K.take (j + 1)) = false by rw [HQX.out]; simp [e])
                              have e2 : (q == y0) = false := beq_eq_false_iff_ne.2 e
                              go_wp2
                              go_round
                              case rel => exact ⟨j + 1, by omega, by go_num, by rw [HQ2.out]⟩
                              case measure => simp [intOf]; omega
                        · have HHS2 := hidq (show decide (y0 ∈ K) = hs by
                            have h1 := HHS.out
                            rw [List.take_of_length_le (by rw [HKL.out]; omega)] at h1
                            exact h1)
                          cases hs with
                          | true =>
                            go_wp2
                            go_round
                            case rel => exact ⟨k + 1, by omega, by go_num, fun y hy => by
                              rw [HNX.out, List.mem_append, List.mem_singleton] at hy
                              rcases hy with hy | rfl
                              · exact HALL.out y hy
                              · exact of_decide_eq_true HHS2.out⟩
                            case measure => simp [intOf]; omega
                          | false =>
                            go_wp2
                            go_ret
                            exact ⟨rfl, B8.out⟩
                    · have hj := HJ.out fun y hy => (HMK.out y).1 (HALL.out y (by rw [List.take_of_length_le (by rw [HLN.out]; omega)]; exact hy))
                      first
                      | (exfalso; revert hj; decide)
                      | (clear hj; go_wp2; go_ret; exact ⟨rfl, B8.out⟩)
                | false =>
                  clear hxz hyz
                  go_enter Try.func8, Try.ntmps8
                  go_wp2_with (first | (go_at_call 10; refine (klive_any _).mono ?_; rintro rr w1 ⟨rfl, hb1⟩; have B1 := hidq hb1; have sz1 := hb1.size; clear hb1) | (go_at_call 11; refine (few2_yes HFE.out _ ((U1.out.below B1.out).alloc _) (iss_two w1 _ (by simp) _ _ _ H (U2.out.below B1.out) _ _ _ L (U3.out.below B1.out))).mono ?_; rintro rr w2 ⟨rfl, hw2⟩; subst w2; have B2 := hidq (fun o => below_one (o := o) B1.out)) | (go_at_call 14; clear T1; refine (kknows_any HFI.out HX.out _ (U1.out.below (B2.out _)) (U2.out.below (B2.out _))).mono ?_; rintro rr w3 ⟨rfl, hb3⟩; have B3 := hidq (below_trans (B2.out _) hb3); clear hb3) | (go_at_call 14; clear T2; refine (kknows_any HFI.out HY.out _ (U1.out.below B3.out) (U3.out.below B3.out)).mono ?_; rintro rr w4 ⟨rfl, hb4⟩; have B4 := hidq (below_trans B3.out hb4); have sz4 := B4.out.size; clear hb4) | (at_builtin; clear T3; refine wpList_append_sl (E := elInt) rfl _ _ rfl w.heap.size _ _ [] rfl (World.ownsRow_nil _ _ _ _) _ H rfl (U2.out.below B4.out) (by have := HFW.out; have := HLN.out; omega) (by omega) ?_; intro v5 w5 hown5 hgrow5; have O5 := hidq hown5; have B5 := hidq (B4.out.grown hgrow5 (by omega) (fun q hq => by cases hq)); have sz5 := hgrow5.size; clear hown5 hgrow5) | (at_builtin; refine wpList_append_sl (E := elInt) rfl _ _ rfl w.heap.size _ _ ([] ++ H) rfl O5.out _ L rfl (U3.out.below B5.out) (by have := HFW.out; have := HLN.out; omega) (by omega) ?_; intro v6 w6 hown6 hgrow6; have I6 := hidq (show Is w6 v6 (H ++ L) from Sl.of_own (E := elInt) hown6 HLF.out); have B6 := hidq (B5.out.grown hgrow6 (by omega) (fun q hq => (O5.out.lt q hq).1)); clear hown6 hgrow6) | (go_at_call 14; refine (kknows_any HFI.out HZ.out _ (U1.out.below B6.out) I6.out).mono ?_; rintro rr w7 ⟨rfl, hb7⟩; have B7 := hidq (below_trans B6.out hb7); clear hb7) | (go_at_call 12; refine (kall_any HAL.out _ (U1.out.below B7.out) (U2.out.below B7.out)).mono ?_; rintro rr w8 ⟨v8, rfl, ho8, hb8⟩; have hI8 : Is w8 v8 K := Sl.of_own (E := elInt) ho8 HKF.out; obtain ⟨a8, c8, rfl, z1, z2, z4⟩ := hI8.form; rw [HKL.out] at hI8 z1 ⊢; have I8 := hidq hI8; have Z4 := hidq z4; clear hI8 z4; have B8 := hidq (below_trans B7.out hb8); clear ho8 hb8))
                  go_loop [88] (fun s => ∃ k : Nat, k ≤ n ∧ s = .int .i64 k ∧ ∀ y ∈ L.take k, y ∈ K) (fun s => n - (intOf s).toNat)
                  case atStart => exact ⟨0, by omega, rfl, by simp⟩
                  case round =>
                    obtain ⟨k, hk, rfl, hall⟩ := hrel
                    have HALL := hidq hall
                    clear hall
                    by_cases hlt : k < n
                    · obtain ⟨b3, o3, rfl⟩ := HQ4.out (by omega)
                      have hkl3 : k < L.length := by rw [HLN.out]; exact hlt
                      obtain ⟨y0, hy0⟩ : ∃ y0, L[k]? = some y0 := ⟨_, List.getElem?_eq_getElem hkl3⟩
                      have cy := Is.cellq (U3.out.below B8.out) hy0
                      have HNX := hidq (show L.take (k + 1) = L.take k ++ [y0] by
                        rw [List.take_succ_eq_append_getElem hkl3]
                        rw [List.getElem?_eq_getElem hkl3] at hy0
                        rw [Option.some.inj hy0])
                      clear hy0 hkl3
                      go_wp2
                      go_loop [94, 20] (fun s t => ∃ j : Nat, j ≤ kl ∧ s = .int .i64 j ∧ t = .bool (decide (y0 ∈ K.take j))) (fun s _ => kl - (intOf s).toNat)
                      case atStart => exact ⟨0, by omega, rfl, by simp⟩
                      case round =>
                        obtain ⟨j, hj, rfl, rfl⟩ := hrel
                        obtain ⟨hs, hhs⟩ : ∃ hs, decide (y0 ∈ K.take j) = hs := ⟨_, rfl⟩
                        rw [hhs]
                        have HHS := hidq hhs
                        clear hhs
                        by_cases hjl : j < kl
                        · obtain ⟨b8, o8, rfl⟩ := Z4.out (by omega)
                          have hjk : j < K.length := by rw [HKL.out]; exact hjl
                          obtain ⟨q, hq⟩ : ∃ q, K[j]? = some q := ⟨_, List.getElem?_eq_getElem hjk⟩
                          have cq := Is.cellq I8.out hq
                          have HQX := hidq (show decide (y0 ∈ K.take (j + 1)) = (hs || decide (q = y0)) by
                            rw [List.take_succ_eq_append_getElem hjk]
                            rw [List.getElem?_eq_getElem hjk] at hq
                            rw [Option.some.inj hq, ← HHS.out]
                            simp [Bool.decide_or, eq_comm])
                          clear hq hjk
                          cases hs with
                          | true =>
                            have HQ2 := hidq (show decide (y0 ∈ K.take (j + 1)) = true by rw [HQX.out]; rfl)
                            go_wp2
                            go_round
                            case rel => exact ⟨j + 1, by omega, by go_num, by rw [HQ2.out]⟩
                            case measure => simp [intOf]; omega
                          | false =>
                            by_cases e : q = y0
                            · subst e
                              have HQ2 := hidq (show decide (q ∈ K.take (j + 1)) = true by rw [HQX.out]; simp)
                              go_wp2
                              go_round
                              case rel => exact ⟨j + 1, by omega, by go_num, by rw [HQ2.out]⟩
                              case measure => simp [intOf]; omega
                            · have HQ2 := hidq (show decide (y0 ∈ K.take (j + 1)) = false by rw [HQX.out]; simp [e])
                              have e2 : (q == y0) = false := beq_eq_false_iff_ne.2 e
                              go_wp2
                              go_round
                              case rel => exact ⟨j + 1, by omega, by go_num, by rw [HQ2.out]⟩
                              case measure => simp [intOf]; omega
                        · have HHS2 := hidq (show decide (y0 ∈ K) = hs by
                            have h1 := HHS.out
                            rw [List.take_of_length_le (by rw [HKL.out]; omega)] at h1
                            exact h1)
                          cases hs with
                          | true =>
                            go_wp2
                            go_round
                            case rel => exact ⟨k + 1, by omega, by go_num, fun y hy => by
                              rw [HNX.out, List.mem_append, List.mem_singleton] at hy
                              rcases hy with hy | rfl
                              · exact HALL.out y hy
                              · exact of_decide_eq_true HHS2.out⟩
                            case measure => simp [intOf]; omega
                          | false =>
                            go_wp2
                            go_ret
                            exact ⟨rfl, B8.out⟩
                    · have hj := HJ.out fun y hy => (HMK.out y).1 (HALL.out y (by rw [List.take_of_length_le (by rw [HLN.out]; omega)]; exact hy))
                      first
                      | (exfalso; revert hj; decide)
                      | (clear hj; go_wp2; go_ret; exact ⟨rfl, B8.out⟩)
          · exact absurd ⟨x1, x2⟩ hno
        · exact absurd ⟨x1, hok, x3⟩ hno
      · clear hfe hx x1 x2 x3 hZ
        generalize hln : L.length = n at *
        have HLN := hidq hln
        go_enter Try.func8, Try.ntmps8
        go_wp2_with (first | (go_at_call 10; refine (klive_any _).mono ?_; rintro rr w1 ⟨rfl, hb1⟩; have B1 := hidq hb1; have sz1 := hb1.size; clear hb1) | (go_at_call 11; refine (few2_yes HFE.out _ ((U1.out.below B1.out).alloc _) (iss_two w1 _ (by simp) _ _ _ H (U2.out.below B1.out) _ _ _ L (U3.out.below B1.out))).mono ?_; rintro rr w2 ⟨rfl, hw2⟩; subst w2; have B2 := hidq (fun o => below_one (o := o) B1.out)) | (go_at_call 14; clear T1; refine (kknows_any HFI.out HX.out _ (U1.out.below (B2.out _)) (U2.out.below (B2.out _))).mono ?_; rintro rr w3 ⟨rfl, hb3⟩; have B3 := hidq (below_trans (B2.out _) hb3); clear hb3) | (go_at_call 14; clear T2; refine (kknows_any HFI.out HY.out _ (U1.out.below B3.out) (U3.out.below B3.out)).mono ?_; rintro rr w4 ⟨rfl, hb4⟩; have B4 := hidq (below_trans B3.out hb4); have sz4 := B4.out.size; clear hb4) | (at_builtin; clear T3; refine wpList_append_sl (E := elInt) rfl _ _ rfl w.heap.size _ _ [] rfl (World.ownsRow_nil _ _ _ _) _ H rfl (U2.out.below B4.out) (by have := HFW.out; have := HLN.out; omega) (by omega) ?_; intro v5 w5 hown5 hgrow5; have O5 := hidq hown5; have B5 := hidq (B4.out.grown hgrow5 (by omega) (fun q hq => by cases hq)); have sz5 := hgrow5.size; clear hown5 hgrow5) | (at_builtin; refine wpList_append_sl (E := elInt) rfl _ _ rfl w.heap.size _ _ ([] ++ H) rfl O5.out _ L rfl (U3.out.below B5.out) (by have := HFW.out; have := HLN.out; omega) (by omega) ?_; intro v6 w6 hown6 hgrow6; have I6 := hidq (show Is w6 v6 (H ++ L) from Sl.of_own (E := elInt) hown6 HLF.out); have B6 := hidq (B5.out.grown hgrow6 (by omega) (fun q hq => (O5.out.lt q hq).1)); clear hown6 hgrow6) | (go_at_call 14; refine (kknows_any HFI.out HZ.out _ (U1.out.below B6.out) I6.out).mono ?_; rintro rr w7 ⟨rfl, hb7⟩; have B7 := hidq (below_trans B6.out hb7); clear hb7) | (go_at_call 12; refine (kall_any HAL.out _ (U1.out.below B7.out) (U2.out.below B7.out)).mono ?_; rintro rr w8 ⟨v8, rfl, ho8, hb8⟩; have hI8 : Is w8 v8 K := Sl.of_own (E := elInt) ho8 HKF.out; obtain ⟨a8, c8, rfl, z1, z2, z4⟩ := hI8.form; rw [HKL.out] at hI8 z1 ⊢; have I8 := hidq hI8; have Z4 := hidq z4; clear hI8 z4; have B8 := hidq (below_trans B7.out hb8); clear ho8 hb8))
        go_ret
        exact ⟨rfl, B7.out⟩
    · clear hfe hY hZ
      generalize hln : L.length = n at *
      have HLN := hidq hln
      go_enter Try.func8, Try.ntmps8
      go_wp2_with (first | (go_at_call 10; refine (klive_any _).mono ?_; rintro rr w1 ⟨rfl, hb1⟩; have B1 := hidq hb1; have sz1 := hb1.size; clear hb1) | (go_at_call 11; refine (few2_yes HFE.out _ ((U1.out.below B1.out).alloc _) (iss_two w1 _ (by simp) _ _ _ H (U2.out.below B1.out) _ _ _ L (U3.out.below B1.out))).mono ?_; rintro rr w2 ⟨rfl, hw2⟩; subst w2; have B2 := hidq (fun o => below_one (o := o) B1.out)) | (go_at_call 14; clear T1; refine (kknows_any HFI.out HX.out _ (U1.out.below (B2.out _)) (U2.out.below (B2.out _))).mono ?_; rintro rr w3 ⟨rfl, hb3⟩; have B3 := hidq (below_trans (B2.out _) hb3); clear hb3) | (go_at_call 14; clear T2; refine (kknows_any HFI.out HY.out _ (U1.out.below B3.out) (U3.out.below B3.out)).mono ?_; rintro rr w4 ⟨rfl, hb4⟩; have B4 := hidq (below_trans B3.out hb4); have sz4 := B4.out.size; clear hb4) | (at_builtin; clear T3; refine wpList_append_sl (E := elInt) rfl _ _ rfl w.heap.size _ _ [] rfl (World.ownsRow_nil _ _ _ _) _ H rfl (U2.out.below B4.out) (by have := HFW.out; have := HLN.out; omega) (by omega) ?_; intro v5 w5 hown5 hgrow5; have O5 := hidq hown5; have B5 := hidq (B4.out.grown hgrow5 (by omega) (fun q hq => by cases hq)); have sz5 := hgrow5.size; clear hown5 hgrow5) | (at_builtin; refine wpList_append_sl (E := elInt) rfl _ _ rfl w.heap.size _ _ ([] ++ H) rfl O5.out _ L rfl (U3.out.below B5.out) (by have := HFW.out; have := HLN.out; omega) (by omega) ?_; intro v6 w6 hown6 hgrow6; have I6 := hidq (show Is w6 v6 (H ++ L) from Sl.of_own (E := elInt) hown6 HLF.out); have B6 := hidq (B5.out.grown hgrow6 (by omega) (fun q hq => (O5.out.lt q hq).1)); clear hown6 hgrow6) | (go_at_call 14; refine (kknows_any HFI.out HZ.out _ (U1.out.below B6.out) I6.out).mono ?_; rintro rr w7 ⟨rfl, hb7⟩; have B7 := hidq (below_trans B6.out hb7); clear hb7) | (go_at_call 12; refine (kall_any HAL.out _ (U1.out.below B7.out) (U2.out.below B7.out)).mono ?_; rintro rr w8 ⟨v8, rfl, ho8, hb8⟩; have hI8 : Is w8 v8 K := Sl.of_own (E := elInt) ho8 HKF.out; obtain ⟨a8, c8, rfl, z1, z2, z4⟩ := hI8.form; rw [HKL.out] at hI8 z1 ⊢; have I8 := hidq hI8; have Z4 := hidq z4; clear hI8 z4; have B8 := hidq (below_trans B7.out hb8); clear ho8 hb8))
      go_ret
      exact ⟨rfl, B7.out⟩
  · have HFE := hidq hfe
    clear hfe
    go_enter Try.func8, Try.ntmps8
    go_wp2_with (first | (go_at_call 10; refine (klive_any _).mono ?_; rintro rr w1 ⟨rfl, hb1⟩; have B1 := hidq hb1; have sz1 := hb1.size; clear hb1) | (go_at_call 11; refine (few2_no HFE.out _ ((U1.out.below B1.out).alloc _) (iss_two w1 _ (by simp) _ _ _ H (U2.out.below B1.out) _ _ _ L (U3.out.below B1.out))).mono ?_; rintro rr w2 ⟨rfl, hw2⟩; subst w2))
    go_ret
    exact ⟨rfl, below_one B1.out⟩
end Go.Proofs.Ythkkclhjpgkhaaa
