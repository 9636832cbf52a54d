/-
  The law TermWithin: what a term is made of lies ahead of it, and is less deep; all that it is made of is made of what is among that; its depth is that of the deepest one, and one. Conditions: the slice holds terms; the tables read as the row says.
-/
import Derived.Test.YtkggcfkjmmijbaaDoorT11
import Derived.Test.YtkggcfkjmmijbaaDoorNV
namespace Go.Proofs.YtkggcfkjmmijbaaDoor
open Go.RowKit
theorem M.parts_fit {t : M.Tm} (h : M.fitT t) : ∀ p ∈ M.parts t, M.fitI p := by
  intro p hp
  unfold M.parts at hp
  split at hp
  · simp at hp; subst hp; exact h.2.1
  · split at hp
    · simp at hp; rcases hp with rfl | rfl
      · exact h.2.1
      · exact h.2.2
    · simp at hp
set_option maxRecDepth 100000 in
set_option maxHeartbeats 8000000 in
theorem termWithin_walk (A : List M.Tm) (v : Value) (i : Int) (w : World) (hT : Tab w) (u : Ts w v A) (_ : -9223372036854775808 ≤ i) (_ : i ≤ 9223372036854775807) :
    Calls Tryd.prog 6 #[v, .int .i64 i] w fun e w' => e = .returned (.bool true) ∧ Below w.heap.size w w' := by
  obtain ⟨ao, cap, rfl, q1, q2, q4⟩ := u.form
  have U := hidq (fun X (hb : Below w.heap.size w X) => u.below hb)
  have HT := hidq hT
  have HFA := hidq (fun k (hk : k < A.length) => u.fit hk)
  clear u hT
  by_cases hl : A.length ≤ 60
  · by_cases ht : M.thr A i = true
    · obtain ⟨hA, h0, h1⟩ := M.thr_iff.1 ht
      obtain ⟨m, rfl⟩ : ∃ m : Nat, i = m := ⟨i.toNat, by omega⟩
      have hmA : m < A.length := by omega
      obtain ⟨b, off, rfl⟩ := q4 (by omega)
      obtain ⟨I, hI⟩ : ∃ I, M.withinL A m = I := ⟨_, rfl⟩
      have hW : M.Win A m I := by
        rw [← hI]
        unfold M.withinL
        rw [if_pos ht, Int.toNat_natCast]
        exact M.win_within hA hmA
      have W1 := hidq hI
      have W2 : Hid (M.deepE A m = 0) := if_pos ht
      have W3 := hidq (hI ▸ within_fit A m)
      have HW := hidq hW
      have HA := hidq hA
      have HMA := hidq hmA
      obtain ⟨d, hd⟩ : ∃ d, M.deepV A m = d := ⟨_, rfl⟩
      have D1 : Hid (M.dpV A m = d) := by
        show _ = _
        unfold M.dpV; rw [if_pos ht, Int.toNat_natCast, hd]
      have HD := hidq hd
      have dbd := M.deepV_bd hA (m + 1) m (by omega) hmA
      rw [hd] at dbd
      clear ht hA h0 hI hW hd q4
      obtain ⟨N, hNI⟩ : ∃ N, I.length = N := ⟨_, rfl⟩
      have HNI := hidq hNI
      have wN := HW.out.1
      have wN2 := HW.out.2.1
      have wL := HW.out.2.2.1
      rw [hNI] at wN wN2 wL
      have MA := hidq (M.mx_all HA.out hmA HW.out)
      rw [hNI, HD.out] at MA
      clear hNI
      generalize hn : A.length = n at *
      have HN := hidq hn
      clear hn
      have n1 : ¬ (N : Int) = 0 := by omega
      have n1b : ((N : Int) == 0) = false := beq_eq_false_iff_ne.2 n1
      have n1c : decide (60 < (n : Int)) = false := decide_eq_false (by omega)
      have n2 : (0 : Int) ≤ (N : Int) - 1 := by omega
      have n3 : (N : Int) - 1 < N := by omega
      have n4 : ((N : Int) - 1).toNat = N - 1 := by omega
      have nw := wrap64 (x := (N : Int) - 1) (by omega) (by omega)
      go_enter Tryd.func6, Tryd.ntmps6
      go_wp2_with (first | (go_at_call 8; refine (live5_any _ HT.out).mono ?_; rintro r w1 ⟨rfl, hb1⟩; have B1 := hidq hb1; clear hb1) | (go_at_call 21; refine (within_eq W1.out W2.out _ (U.out _ B1.out)).mono ?_; rintro r w6 ⟨v6, rfl, ho6, hb6⟩; have B6 := hidq (below_trans B1.out hb6); have O6 := hidq (Sl.of_own (E := elInt) ho6 W3.out); obtain ⟨a6, cap6, rfl, hc6, _, hs6⟩ := O6.out.form; have S6 := hidq hs6; clear hb6 ho6 hs6); (obtain ⟨b6, o6, rfl⟩ := S6.out (by have := HNI.out; omega)) | (go_at_call 19; refine (deep_eq D1.out W2.out _ (U.out _ B6.out)).mono ?_; rintro r w7 ⟨rfl, hb7⟩; have B7 := hidq (below_trans B6.out hb7); have O7 := hidq (O6.out.below hb7); clear hb7); (have cl := Is.cell O7.out (k := N - 1) (by rw [HNI.out]; omega); rw [wL, Option.getD_some] at cl; rw [HNI.out] at *))
      have HNI2 : I.length = N := by
        obtain ⟨_, _, e, _⟩ := O7.out
        simp only [Value.slice.injEq] at e
        exact e.2.1.symm
      clear HNI
      have HNI := hidq HNI2
      clear HNI2 O6 cl wL
      go_loopw [69, 10] (fun x y wr => ∃ q : Nat, q ≤ N ∧ x = .int .i64 q ∧ y = .int .i64 (M.mx A m I q) ∧ Below w.heap.size w wr ∧ Is wr (.slice (some ⟨b6, o6, none⟩) N cap6) I) (fun x _ _ => N - (intOf x).toNat)
      case atStart => exact ⟨0, by omega, rfl, by rw [M.mx_zero], B7.out, O7.out⟩
      case round =>
        obtain ⟨q, hq, rfl, rfl, hbw, hiw⟩ := hrel
        have BW := hidq hbw
        have IW := hidq hiw
        clear hbw hiw B7 O7
        by_cases hlt : q < N
        · obtain ⟨kk, hkk⟩ : ∃ kk, I[q]? = some kk := ⟨_, List.getElem?_eq_getElem (by rw [HNI.out]; exact hlt)⟩
          obtain ⟨k0, k1, k2⟩ := HW.out.2.2.2.1 q kk hkk
          obtain ⟨k, rfl⟩ : ∃ k : Nat, kk = k := ⟨kk.toNat, by omega⟩
          rw [Int.toNat_natCast] at k2
          have HK := hidq hkk
          have hkn : k < n := by omega
          have ck := Is.cell IW.out (k := q) (by rw [HNI.out]; exact hlt)
          rw [hkk, Option.getD_some] at ck
          have tk : M.thr A k = true := M.thr_iff.2 ⟨HA.out, by omega, by rw [HN.out]; omega⟩
          obtain ⟨dk, hdk⟩ : ∃ dk, M.deepV A k = dk := ⟨_, rfl⟩
          have DV : Hid (M.dpV A k = dk) := by
            show _ = _
            unfold M.dpV; rw [if_pos tk, Int.toNat_natCast, hdk]
          have DE : Hid (M.deepE A k = 0) := if_pos tk
          have HDL := hidq (M.rk_deep HA.out (by rw [HN.out]; exact hmA) k2)
          rw [hdk, HD.out] at HDL
          have dkb := M.deepV_bd HA.out (k + 1) k (by omega) (by rw [HN.out]; exact hkn)
          rw [hdk] at dkb
          have HP := hidq (M.win_parts HA.out (by rw [HN.out]; exact hmA) HW.out hkk)
          have FP := hidq (M.parts_fit (HFA.out k hkn))
          obtain ⟨t, hs⟩ : ∃ t, M.at_ A k = t := ⟨_, rfl⟩
          have HTK := hidq hs
          rw [hs] at HP FP
          have HRP := hidq (rparts_any t)
          have hn2 := M.parts_le t
          generalize M.parts t = ps at *
          obtain ⟨np, hnp⟩ : ∃ np, ps.length = np := ⟨_, rfl⟩
          rw [hnp] at HRP hn2
          have HNP := hidq hnp
          have HMS := hidq (M.mx_succ A m I q _ hkk)
          rw [Int.toNat_natCast, hdk] at HMS
          have mbd := M.mx_bd HA.out (by rw [HN.out]; exact hmA) HW.out q (by rw [HNI.out]; exact hq)
          rw [HD.out] at mbd
          obtain ⟨dd, hdd⟩ : ∃ dd, M.mx A m I q = dd := ⟨_, rfl⟩
          rw [hdd] at HMS mbd ⊢
          have hqN : (q : Int) < N := by omega
          have hkm1 : ¬ (m : Int) < (k : Int) := by omega
          have hkni : (k : Int) < n := by omega
          have HQP := hidq (fun (h : 0 < q) => show ∃ x, x < (k : Int) ∧ wr.cell? ⟨b6, o6 + (q - 1), none⟩ = some (.int .i64 x) by
            obtain ⟨x, hx⟩ : ∃ x, I[q - 1]? = some x := ⟨_, List.getElem?_eq_getElem (by rw [HNI.out]; omega)⟩
            refine ⟨x, HW.out.2.2.2.2.1 (q - 1) x k hx (by rw [show q - 1 + 1 = q by omega]; exact hkk), ?_⟩
            have := Is.cell IW.out (k := q - 1) (by rw [HNI.out]; omega)
            rwa [hx, Option.getD_some] at this)
          clear hkk hs hnp hdd hdk tk k2
          by_cases hq0 : q = 0
          · subst hq0
            simp only [Nat.add_zero] at ck
            have q0 : ¬ (0 : Int) < 0 := by omega
            have q0n : (0 : Int) < N := by omega
            by_cases hkm : k = m
            · have MS := hidq (show M.mx A m I (0 + 1) = dd by rw [HMS.out, if_pos (by omega)])
              clear HMS HQP
              subst hkm
              go_wp2_with (first | (go_at_call 19; refine (deep_eq (i := (k : Int)) DV.out DE.out _ (U.out _ BW.out)).mono ?_; rintro r w2 ⟨rfl, hb2⟩; have BQ := hidq (below_trans BW.out hb2); have J2 := hidq (IW.out.below hb2); obtain ⟨x1, x2, x3⟩ := Ts.cell (U.out _ BQ.out) (k := k) (by rw [HN.out]; omega); rw [HTK.out] at x1 x2 x3; clear hb2) | (go_at_call 24; refine (HRP.out _).mono ?_; rintro r w3 ⟨v3, rfl, ho3, hb3⟩; have hu3 := Sl.of_own (E := elInt) ho3 FP.out; obtain ⟨a3, cap3, rfl, hs3⟩ := own_formq ho3; have S3 : Hid (0 < np → ∃ b o, a3 = some ⟨b, o, none⟩) := (fun h => by obtain ⟨g, e, _⟩ := hs3 h; exact ⟨g, 0, e⟩); have U6 := hidq (J2.out.below hb3); clear hs3 ho3))
              have hgB := hidq (below_trans BQ.out hb3)
              have U3 := hidq hu3
              clear hb3
              go_loopw [124] (fun x wr => ∃ q2 : Nat, q2 ≤ np ∧ x = .int .i64 q2 ∧ Below w.heap.size w wr ∧ Is wr (.slice a3 np cap3) ps ∧ Is wr (.slice (some ⟨b6, o6, none⟩) N cap6) I) (fun x _ => np - (intOf x).toNat)
              case atStart => exact ⟨0, by omega, rfl, hgB.out, U3.out, U6.out⟩
              case round =>
                obtain ⟨q2, hq2, rfl, hb4, hu4, hi4⟩ := hrel
                have B4 := hidq hb4
                have U4 := hidq hu4
                have I4 := hidq hi4
                clear hb4 hu4 hi4 U3 U6 hgB
                by_cases hl2 : q2 < np
                · obtain ⟨b3, o3, rfl⟩ := S3.out (by omega)
                  obtain ⟨p, hp⟩ : ∃ p, ps[q2]? = some p := ⟨_, List.getElem?_eq_getElem (by rw [HNP.out]; exact hl2)⟩
                  obtain ⟨p1, p2, p3⟩ := HP.out p (List.mem_of_getElem? hp)
                  have cp := Is.cell U4.out (k := q2) (by rw [HNP.out]; exact hl2)
                  rw [hp, Option.getD_some] at cp
                  have PA := hidq (M.among_all I p p1)
                  rw [HNI.out] at PA
                  clear hp p1
                  go_wp2
                  go_loopw [130, 17] (fun x y wr => ∃ j : Nat, j ≤ N ∧ x = .int .i64 j ∧ y = .bool (M.among I p j) ∧ Below w.heap.size w wr ∧ Is wr (.slice (some ⟨b3, o3, none⟩) np cap3) ps ∧ Is wr (.slice (some ⟨b6, o6, none⟩) N cap6) I) (fun x _ _ => N - (intOf x).toNat)
                  case atStart => exact ⟨0, by omega, rfl, by rw [M.among_zero], B4.out, U4.out, I4.out⟩
                  case round =>
                    obtain ⟨j, hj, rfl, rfl, hb5, hu5, hi5⟩ := hrel
                    have B5 := hidq hb5
                    have U5 := hidq hu5
                    have I5 := hidq hi5
                    clear hb5 hu5 hi5 B4 U4 I4
                    by_cases hl3 : j < N
                    · obtain ⟨y, hy⟩ : ∃ y, I[j]? = some y := ⟨_, List.getElem?_eq_getElem (by rw [HNI.out]; exact hl3)⟩
                      have cy := Is.cell I5.out (k := j) (by rw [HNI.out]; exact hl3)
                      rw [hy, Option.getD_some] at cy
                      have AS := hidq (M.among_succ I p j y hy)
                      have hjN : (j : Int) < N := by omega
                      clear hy
                      cases hb : M.among I p j with
                      | true =>
                        rw [hb, Bool.true_or] at AS
                        clear hb
                        go_wp2
                        go_roundw
                        case rel => exact ⟨j + 1, by omega, by go_num, by rw [AS.out], B5.out, U5.out, I5.out⟩
                        case measure => simp [intOf]; omega
                      | false =>
                        rw [hb, Bool.false_or] at AS
                        clear hb
                        by_cases hyp : y = p
                        · rw [decide_eq_true hyp] at AS
                          have hyb : (y == p) = true := beq_iff_eq.2 hyp
                          go_wp2
                          go_roundw
                          case rel => exact ⟨j + 1, by omega, by go_num, by rw [AS.out], B5.out, U5.out, I5.out⟩
                          case measure => simp [intOf]; omega
                        · rw [decide_eq_false hyp] at AS
                          have hyb : (y == p) = false := beq_eq_false_iff_ne.2 hyp
                          go_wp2
                          go_roundw
                          case rel => exact ⟨j + 1, by omega, by go_num, by rw [AS.out], B5.out, U5.out, I5.out⟩
                          case measure => simp [intOf]; omega
                    · obtain rfl : j = N := by omega
                      have hpa := PA.out
                      have hpk : ¬ (k : Int) ≤ p := by omega
                      go_wp2
                      go_roundw
                      case rel => exact ⟨q2 + 1, by omega, by go_num, B5.out, U5.out, I5.out⟩
                      case measure => simp [intOf]; omega
                · go_wp2
                  go_roundw
                  case rel => exact ⟨0 + 1, by omega, by go_num, by rw [MS.out] <;> (congr 1; omega), B4.out, I4.out⟩
                  case measure => simp [intOf]; omega
            · have hkmi : ¬ (k : Int) = m := by omega
              have hdl := HDL.out hkm
              have hge : ¬ d ≤ dk := by omega
              rw [if_neg hkmi] at HMS
              by_cases hmx : dd < dk
              · have MS := hidq (show M.mx A m I (0 + 1) = dk by rw [HMS.out]; omega)
                clear HMS HQP
                go_wp2_with (first | (go_at_call 19; refine (deep_eq (i := (k : Int)) DV.out DE.out _ (U.out _ BW.out)).mono ?_; rintro r w2 ⟨rfl, hb2⟩; have BQ := hidq (below_trans BW.out hb2); have J2 := hidq (IW.out.below hb2); obtain ⟨x1, x2, x3⟩ := Ts.cell (U.out _ BQ.out) (k := k) (by rw [HN.out]; omega); rw [HTK.out] at x1 x2 x3; clear hb2) | (go_at_call 24; refine (HRP.out _).mono ?_; rintro r w3 ⟨v3, rfl, ho3, hb3⟩; have hu3 := Sl.of_own (E := elInt) ho3 FP.out; obtain ⟨a3, cap3, rfl, hs3⟩ := own_formq ho3; have S3 : Hid (0 < np → ∃ b o, a3 = some ⟨b, o, none⟩) := (fun h => by obtain ⟨g, e, _⟩ := hs3 h; exact ⟨g, 0, e⟩); have U6 := hidq (J2.out.below hb3); clear hs3 ho3))
                have hgB := hidq (below_trans BQ.out hb3)
                have U3 := hidq hu3
                clear hb3
                go_loopw [124] (fun x wr => ∃ q2 : Nat, q2 ≤ np ∧ x = .int .i64 q2 ∧ Below w.heap.size w wr ∧ Is wr (.slice a3 np cap3) ps ∧ Is wr (.slice (some ⟨b6, o6, none⟩) N cap6) I) (fun x _ => np - (intOf x).toNat)
                case atStart => exact ⟨0, by omega, rfl, hgB.out, U3.out, U6.out⟩
                case round =>
                  obtain ⟨q2, hq2, rfl, hb4, hu4, hi4⟩ := hrel
                  have B4 := hidq hb4
                  have U4 := hidq hu4
                  have I4 := hidq hi4
                  clear hb4 hu4 hi4 U3 U6 hgB
                  by_cases hl2 : q2 < np
                  · obtain ⟨b3, o3, rfl⟩ := S3.out (by omega)
                    obtain ⟨p, hp⟩ : ∃ p, ps[q2]? = some p := ⟨_, List.getElem?_eq_getElem (by rw [HNP.out]; exact hl2)⟩
                    obtain ⟨p1, p2, p3⟩ := HP.out p (List.mem_of_getElem? hp)
                    have cp := Is.cell U4.out (k := q2) (by rw [HNP.out]; exact hl2)
                    rw [hp, Option.getD_some] at cp
                    have PA := hidq (M.among_all I p p1)
                    rw [HNI.out] at PA
                    clear hp p1
                    go_wp2
                    go_loopw [130, 17] (fun x y wr => ∃ j : Nat, j ≤ N ∧ x = .int .i64 j ∧ y = .bool (M.among I p j) ∧ Below w.heap.size w wr ∧ Is wr (.slice (some ⟨b3, o3, none⟩) np cap3) ps ∧ Is wr (.slice (some ⟨b6, o6, none⟩) N cap6) I) (fun x _ _ => N - (intOf x).toNat)
                    case atStart => exact ⟨0, by omega, rfl, by rw [M.among_zero], B4.out, U4.out, I4.out⟩
                    case round =>
                      obtain ⟨j, hj, rfl, rfl, hb5, hu5, hi5⟩ := hrel
                      have B5 := hidq hb5
                      have U5 := hidq hu5
                      have I5 := hidq hi5
                      clear hb5 hu5 hi5 B4 U4 I4
                      by_cases hl3 : j < N
                      · obtain ⟨y, hy⟩ : ∃ y, I[j]? = some y := ⟨_, List.getElem?_eq_getElem (by rw [HNI.out]; exact hl3)⟩
                        have cy := Is.cell I5.out (k := j) (by rw [HNI.out]; exact hl3)
                        rw [hy, Option.getD_some] at cy
                        have AS := hidq (M.among_succ I p j y hy)
                        have hjN : (j : Int) < N := by omega
                        clear hy
                        cases hb : M.among I p j with
                        | true =>
                          rw [hb, Bool.true_or] at AS
                          clear hb
                          go_wp2
                          go_roundw
                          case rel => exact ⟨j + 1, by omega, by go_num, by rw [AS.out], B5.out, U5.out, I5.out⟩
                          case measure => simp [intOf]; omega
                        | false =>
                          rw [hb, Bool.false_or] at AS
                          clear hb
                          by_cases hyp : y = p
                          · rw [decide_eq_true hyp] at AS
                            have hyb : (y == p) = true := beq_iff_eq.2 hyp
                            go_wp2
                            go_roundw
                            case rel => exact ⟨j + 1, by omega, by go_num, by rw [AS.out], B5.out, U5.out, I5.out⟩
                            case measure => simp [intOf]; omega
                          · rw [decide_eq_false hyp] at AS
                            have hyb : (y == p) = false := beq_eq_false_iff_ne.2 hyp
                            go_wp2
                            go_roundw
                            case rel => exact ⟨j + 1, by omega, by go_num, by rw [AS.out], B5.out, U5.out, I5.out⟩
                            case measure => simp [intOf]; omega
                      · obtain rfl : j = N := by omega
                        have hpa := PA.out
                        have hpk : ¬ (k : Int) ≤ p := by omega
                        go_wp2
                        go_roundw
                        case rel => exact ⟨q2 + 1, by omega, by go_num, B5.out, U5.out, I5.out⟩
                        case measure => simp [intOf]; omega
                  · go_wp2
                    go_roundw
                    case rel => exact ⟨0 + 1, by omega, by go_num, by rw [MS.out] <;> (congr 1; omega), B4.out, I4.out⟩
                    case measure => simp [intOf]; omega
              · have MS := hidq (show M.mx A m I (0 + 1) = dd by rw [HMS.out]; omega)
                clear HMS HQP
                go_wp2_with (first | (go_at_call 19; refine (deep_eq (i := (k : Int)) DV.out DE.out _ (U.out _ BW.out)).mono ?_; rintro r w2 ⟨rfl, hb2⟩; have BQ := hidq (below_trans BW.out hb2); have J2 := hidq (IW.out.below hb2); obtain ⟨x1, x2, x3⟩ := Ts.cell (U.out _ BQ.out) (k := k) (by rw [HN.out]; omega); rw [HTK.out] at x1 x2 x3; clear hb2) | (go_at_call 24; refine (HRP.out _).mono ?_; rintro r w3 ⟨v3, rfl, ho3, hb3⟩; have hu3 := Sl.of_own (E := elInt) ho3 FP.out; obtain ⟨a3, cap3, rfl, hs3⟩ := own_formq ho3; have S3 : Hid (0 < np → ∃ b o, a3 = some ⟨b, o, none⟩) := (fun h => by obtain ⟨g, e, _⟩ := hs3 h; exact ⟨g, 0, e⟩); have U6 := hidq (J2.out.below hb3); clear hs3 ho3))
                have hgB := hidq (below_trans BQ.out hb3)
                have U3 := hidq hu3
                clear hb3
                go_loopw [124] (fun x wr => ∃ q2 : Nat, q2 ≤ np ∧ x = .int .i64 q2 ∧ Below w.heap.size w wr ∧ Is wr (.slice a3 np cap3) ps ∧ Is wr (.slice (some ⟨b6, o6, none⟩) N cap6) I) (fun x _ => np - (intOf x).toNat)
                case atStart => exact ⟨0, by omega, rfl, hgB.out, U3.out, U6.out⟩
                case round =>
                  obtain ⟨q2, hq2, rfl, hb4, hu4, hi4⟩ := hrel
                  have B4 := hidq hb4
                  have U4 := hidq hu4
                  have I4 := hidq hi4
                  clear hb4 hu4 hi4 U3 U6 hgB
                  by_cases hl2 : q2 < np
                  · obtain ⟨b3, o3, rfl⟩ := S3.out (by omega)
                    obtain ⟨p, hp⟩ : ∃ p, ps[q2]? = some p := ⟨_, List.getElem?_eq_getElem (by rw [HNP.out]; exact hl2)⟩
                    obtain ⟨p1, p2, p3⟩ := HP.out p (List.mem_of_getElem? hp)
                    have cp := Is.cell U4.out (k := q2) (by rw [HNP.out]; exact hl2)
                    rw [hp, Option.getD_some] at cp
                    have PA := hidq (M.among_all I p p1)
                    rw [HNI.out] at PA
                    clear hp p1
                    go_wp2
                    go_loopw [130, 17] (fun x y wr => ∃ j : Nat, j ≤ N ∧ x = .int .i64 j ∧ y = .bool (M.among I p j) ∧ Below w.heap.size w wr ∧ Is wr (.slice (some ⟨b3, o3, none⟩) np cap3) ps ∧ Is wr (.slice (some ⟨b6, o6, none⟩) N cap6) I) (fun x _ _ => N - (intOf x).toNat)
                    case atStart => exact ⟨0, by omega, rfl, by rw [M.among_zero], B4.out, U4.out, I4.out⟩
                    case round =>
                      obtain ⟨j, hj, rfl, rfl, hb5, hu5, hi5⟩ := hrel
                      have B5 := hidq hb5
                      have U5 := hidq hu5
                      have I5 := hidq hi5
                      clear hb5 hu5 hi5 B4 U4 I4
                      by_cases hl3 : j < N
                      · obtain ⟨y, hy⟩ : ∃ y, I[j]? = some y := ⟨_, List.getElem?_eq_getElem (by rw [HNI.out]; exact hl3)⟩
                        have cy := Is.cell I5.out (k := j) (by rw [HNI.out]; exact hl3)
                        rw [hy, Option.getD_some] at cy
                        have AS := hidq (M.among_succ I p j y hy)
                        have hjN : (j : Int) < N := by omega
                        clear hy
                        cases hb : M.among I p j with
                        | true =>
                          rw [hb, Bool.true_or] at AS
                          clear hb
                          go_wp2
                          go_roundw
                          case rel => exact ⟨j + 1, by omega, by go_num, by rw [AS.out], B5.out, U5.out, I5.out⟩
                          case measure => simp [intOf]; omega
                        | false =>
                          rw [hb, Bool.false_or] at AS
                          clear hb
                          by_cases hyp : y = p
                          · rw [decide_eq_true hyp] at AS
                            have hyb : (y == p) = true := beq_iff_eq.2 hyp
                            go_wp2
                            go_roundw
                            case rel => exact ⟨j + 1, by omega, by go_num, by rw [AS.out], B5.out, U5.out, I5.out⟩
                            case measure => simp [intOf]; omega
                          · rw [decide_eq_false hyp] at AS
                            have hyb : (y == p) = false := beq_eq_false_iff_ne.2 hyp
                            go_wp2
                            go_roundw
                            case rel => exact ⟨j + 1, by omega, by go_num, by rw [AS.out], B5.out, U5.out, I5.out⟩
                            case measure => simp [intOf]; omega
                      · obtain rfl : j = N := by omega
                        have hpa := PA.out
                        have hpk : ¬ (k : Int) ≤ p := by omega
                        go_wp2
                        go_roundw
                        case rel => exact ⟨q2 + 1, by omega, by go_num, B5.out, U5.out, I5.out⟩
                        case measure => simp [intOf]; omega
                  · go_wp2
                    go_roundw
                    case rel => exact ⟨0 + 1, by omega, by go_num, by rw [MS.out] <;> (congr 1; omega), B4.out, I4.out⟩
                    case measure => simp [intOf]; omega
          · have q0 : (0 : Int) < q := by omega
            have q1' : (0 : Int) ≤ (q : Int) - 1 := by omega
            have q2' : (q : Int) - 1 < N := by omega
            have q3' : ((q : Int) - 1).toNat = q - 1 := by omega
            have qw := wrap64 (x := (q : Int) - 1) (by omega) (by omega)
            obtain ⟨xp, hxp, cxp⟩ := HQP.out (by omega)
            have hxk : ¬ (k : Int) ≤ xp := by omega
            by_cases hkm : k = m
            · have MS := hidq (show M.mx A m I (q + 1) = dd by rw [HMS.out, if_pos (by omega)])
              clear HMS HQP
              subst hkm
              go_wp2_with (first | (go_at_call 19; refine (deep_eq (i := (k : Int)) DV.out DE.out _ (U.out _ BW.out)).mono ?_; rintro r w2 ⟨rfl, hb2⟩; have BQ := hidq (below_trans BW.out hb2); have J2 := hidq (IW.out.below hb2); obtain ⟨x1, x2, x3⟩ := Ts.cell (U.out _ BQ.out) (k := k) (by rw [HN.out]; omega); rw [HTK.out] at x1 x2 x3; clear hb2) | (go_at_call 24; refine (HRP.out _).mono ?_; rintro r w3 ⟨v3, rfl, ho3, hb3⟩; have hu3 := Sl.of_own (E := elInt) ho3 FP.out; obtain ⟨a3, cap3, rfl, hs3⟩ := own_formq ho3; have S3 : Hid (0 < np → ∃ b o, a3 = some ⟨b, o, none⟩) := (fun h => by obtain ⟨g, e, _⟩ := hs3 h; exact ⟨g, 0, e⟩); have U6 := hidq (J2.out.below hb3); clear hs3 ho3))
              have hgB := hidq (below_trans BQ.out hb3)
              have U3 := hidq hu3
              clear hb3
              go_loopw [124] (fun x wr => ∃ q2 : Nat, q2 ≤ np ∧ x = .int .i64 q2 ∧ Below w.heap.size w wr ∧ Is wr (.slice a3 np cap3) ps ∧ Is wr (.slice (some ⟨b6, o6, none⟩) N cap6) I) (fun x _ => np - (intOf x).toNat)
              case atStart => exact ⟨0, by omega, rfl, hgB.out, U3.out, U6.out⟩
              case round =>
                obtain ⟨q2, hq2, rfl, hb4, hu4, hi4⟩ := hrel
                have B4 := hidq hb4
                have U4 := hidq hu4
                have I4 := hidq hi4
                clear hb4 hu4 hi4 U3 U6 hgB
                by_cases hl2 : q2 < np
                · obtain ⟨b3, o3, rfl⟩ := S3.out (by omega)
                  obtain ⟨p, hp⟩ : ∃ p, ps[q2]? = some p := ⟨_, List.getElem?_eq_getElem (by rw [HNP.out]; exact hl2)⟩
                  obtain ⟨p1, p2, p3⟩ := HP.out p (List.mem_of_getElem? hp)
                  have cp := Is.cell U4.out (k := q2) (by rw [HNP.out]; exact hl2)
                  rw [hp, Option.getD_some] at cp
                  have PA := hidq (M.among_all I p p1)
                  rw [HNI.out] at PA
                  clear hp p1
                  go_wp2
                  go_loopw [130, 17] (fun x y wr => ∃ j : Nat, j ≤ N ∧ x = .int .i64 j ∧ y = .bool (M.among I p j) ∧ Below w.heap.size w wr ∧ Is wr (.slice (some ⟨b3, o3, none⟩) np cap3) ps ∧ Is wr (.slice (some ⟨b6, o6, none⟩) N cap6) I) (fun x _ _ => N - (intOf x).toNat)
                  case atStart => exact ⟨0, by omega, rfl, by rw [M.among_zero], B4.out, U4.out, I4.out⟩
                  case round =>
                    obtain ⟨j, hj, rfl, rfl, hb5, hu5, hi5⟩ := hrel
                    have B5 := hidq hb5
                    have U5 := hidq hu5
                    have I5 := hidq hi5
                    clear hb5 hu5 hi5 B4 U4 I4
                    by_cases hl3 : j < N
                    · obtain ⟨y, hy⟩ : ∃ y, I[j]? = some y := ⟨_, List.getElem?_eq_getElem (by rw [HNI.out]; exact hl3)⟩
                      have cy := Is.cell I5.out (k := j) (by rw [HNI.out]; exact hl3)
                      rw [hy, Option.getD_some] at cy
                      have AS := hidq (M.among_succ I p j y hy)
                      have hjN : (j : Int) < N := by omega
                      clear hy
                      cases hb : M.among I p j with
                      | true =>
                        rw [hb, Bool.true_or] at AS
                        clear hb
                        go_wp2
                        go_roundw
                        case rel => exact ⟨j + 1, by omega, by go_num, by rw [AS.out], B5.out, U5.out, I5.out⟩
                        case measure => simp [intOf]; omega
                      | false =>
                        rw [hb, Bool.false_or] at AS
                        clear hb
                        by_cases hyp : y = p
                        · rw [decide_eq_true hyp] at AS
                          have hyb : (y == p) = true := beq_iff_eq.2 hyp
                          go_wp2
                          go_roundw
                          case rel => exact ⟨j + 1, by omega, by go_num, by rw [AS.out], B5.out, U5.out, I5.out⟩
                          case measure => simp [intOf]; omega
                        · rw [decide_eq_false hyp] at AS
                          have hyb : (y == p) = false := beq_eq_false_iff_ne.2 hyp
                          go_wp2
                          go_roundw
                          case rel => exact ⟨j + 1, by omega, by go_num, by rw [AS.out], B5.out, U5.out, I5.out⟩
                          case measure => simp [intOf]; omega
                    · obtain rfl : j = N := by omega
                      have hpa := PA.out
                      have hpk : ¬ (k : Int) ≤ p := by omega
                      go_wp2
                      go_roundw
                      case rel => exact ⟨q2 + 1, by omega, by go_num, B5.out, U5.out, I5.out⟩
                      case measure => simp [intOf]; omega
                · go_wp2
                  go_roundw
                  case rel => exact ⟨q + 1, by omega, by go_num, by rw [MS.out] <;> (congr 1; omega), B4.out, I4.out⟩
                  case measure => simp [intOf]; omega
            · have hkmi : ¬ (k : Int) = m := by omega
              have hdl := HDL.out hkm
              have hge : ¬ d ≤ dk := by omega
              rw [if_neg hkmi] at HMS
              by_cases hmx : dd < dk
              · have MS := hidq (show M.mx A m I (q + 1) = dk by rw [HMS.out]; omega)
                clear HMS HQP
                go_wp2_with (first | (go_at_call 19; refine (deep_eq (i := (k : Int)) DV.out DE.out _ (U.out _ BW.out)).mono ?_; rintro r w2 ⟨rfl, hb2⟩; have BQ := hidq (below_trans BW.out hb2); have J2 := hidq (IW.out.below hb2); obtain ⟨x1, x2, x3⟩ := Ts.cell (U.out _ BQ.out) (k := k) (by rw [HN.out]; omega); rw [HTK.out] at x1 x2 x3; clear hb2) | (go_at_call 24; refine (HRP.out _).mono ?_; rintro r w3 ⟨v3, rfl, ho3, hb3⟩; have hu3 := Sl.of_own (E := elInt) ho3 FP.out; obtain ⟨a3, cap3, rfl, hs3⟩ := own_formq ho3; have S3 : Hid (0 < np → ∃ b o, a3 = some ⟨b, o, none⟩) := (fun h => by obtain ⟨g, e, _⟩ := hs3 h; exact ⟨g, 0, e⟩); have U6 := hidq (J2.out.below hb3); clear hs3 ho3))
                have hgB := hidq (below_trans BQ.out hb3)
                have U3 := hidq hu3
                clear hb3
                go_loopw [124] (fun x wr => ∃ q2 : Nat, q2 ≤ np ∧ x = .int .i64 q2 ∧ Below w.heap.size w wr ∧ Is wr (.slice a3 np cap3) ps ∧ Is wr (.slice (some ⟨b6, o6, none⟩) N cap6) I) (fun x _ => np - (intOf x).toNat)
                case atStart => exact ⟨0, by omega, rfl, hgB.out, U3.out, U6.out⟩
                case round =>
                  obtain ⟨q2, hq2, rfl, hb4, hu4, hi4⟩ := hrel
                  have B4 := hidq hb4
                  have U4 := hidq hu4
                  have I4 := hidq hi4
                  clear hb4 hu4 hi4 U3 U6 hgB
                  by_cases hl2 : q2 < np
                  · obtain ⟨b3, o3, rfl⟩ := S3.out (by omega)
                    obtain ⟨p, hp⟩ : ∃ p, ps[q2]? = some p := ⟨_, List.getElem?_eq_getElem (by rw [HNP.out]; exact hl2)⟩
                    obtain ⟨p1, p2, p3⟩ := HP.out p (List.mem_of_getElem? hp)
                    have cp := Is.cell U4.out (k := q2) (by rw [HNP.out]; exact hl2)
                    rw [hp, Option.getD_some] at cp
                    have PA := hidq (M.among_all I p p1)
                    rw [HNI.out] at PA
                    clear hp p1
                    go_wp2
                    go_loopw [130, 17] (fun x y wr => ∃ j : Nat, j ≤ N ∧ x = .int .i64 j ∧ y = .bool (M.among I p j) ∧ Below w.heap.size w wr ∧ Is wr (.slice (some ⟨b3, o3, none⟩) np cap3) ps ∧ Is wr (.slice (some ⟨b6, o6, none⟩) N cap6) I) (fun x _ _ => N - (intOf x).toNat)
                    case atStart => exact ⟨0, by omega, rfl, by rw [M.among_zero], B4.out, U4.out, I4.out⟩
                    case round =>
                      obtain ⟨j, hj, rfl, rfl, hb5, hu5, hi5⟩ := hrel
                      have B5 := hidq hb5
                      have U5 := hidq hu5
                      have I5 := hidq hi5
                      clear hb5 hu5 hi5 B4 U4 I4
                      by_cases hl3 : j < N
                      · obtain ⟨y, hy⟩ : ∃ y, I[j]? = some y := ⟨_, List.getElem?_eq_getElem (by rw [HNI.out]; exact hl3)⟩
                        have cy := Is.cell I5.out (k := j) (by rw [HNI.out]; exact hl3)
                        rw [hy, Option.getD_some] at cy
                        have AS := hidq (M.among_succ I p j y hy)
                        have hjN : (j : Int) < N := by omega
                        clear hy
                        cases hb : M.among I p j with
                        | true =>
                          rw [hb, Bool.true_or] at AS
                          clear hb
                          go_wp2
                          go_roundw
                          case rel => exact ⟨j + 1, by omega, by go_num, by rw [AS.out], B5.out, U5.out, I5.out⟩
                          case measure => simp [intOf]; omega
                        | false =>
                          rw [hb, Bool.false_or] at AS
                          clear hb
                          by_cases hyp : y = p
                          · rw [decide_eq_true hyp] at AS
                            have hyb : (y == p) = true := beq_iff_eq.2 hyp
                            go_wp2
                            go_roundw
                            case rel => exact ⟨j + 1, by omega, by go_num, by rw [AS.out], B5.out, U5.out, I5.out⟩
                            case measure => simp [intOf]; omega
                          · rw [decide_eq_false hyp] at AS
                            have hyb : (y == p) = false := beq_eq_false_iff_ne.2 hyp
                            go_wp2
                            go_roundw
                            case rel => exact ⟨j + 1, by omega, by go_num, by rw [AS.out], B5.out, U5.out, I5.out⟩
                            case measure => simp [intOf]; omega
                      · obtain rfl : j = N := by omega
                        have hpa := PA.out
                        have hpk : ¬ (k : Int) ≤ p := by omega
                        go_wp2
                        go_roundw
                        case rel => exact ⟨q2 + 1, by omega, by go_num, B5.out, U5.out, I5.out⟩
                        case measure => simp [intOf]; omega
                  · go_wp2
                    go_roundw
                    case rel => exact ⟨q + 1, by omega, by go_num, by rw [MS.out] <;> (congr 1; omega), B4.out, I4.out⟩
                    case measure => simp [intOf]; omega
              · have MS := hidq (show M.mx A m I (q + 1) = dd by rw [HMS.out]; omega)
                clear HMS HQP
                go_wp2_with (first | (go_at_call 19; refine (deep_eq (i := (k : Int)) DV.out DE.out _ (U.out _ BW.out)).mono ?_; rintro r w2 ⟨rfl, hb2⟩; have BQ := hidq (below_trans BW.out hb2); have J2 := hidq (IW.out.below hb2); obtain ⟨x1, x2, x3⟩ := Ts.cell (U.out _ BQ.out) (k := k) (by rw [HN.out]; omega); rw [HTK.out] at x1 x2 x3; clear hb2) | (go_at_call 24; refine (HRP.out _).mono ?_; rintro r w3 ⟨v3, rfl, ho3, hb3⟩; have hu3 := Sl.of_own (E := elInt) ho3 FP.out; obtain ⟨a3, cap3, rfl, hs3⟩ := own_formq ho3; have S3 : Hid (0 < np → ∃ b o, a3 = some ⟨b, o, none⟩) := (fun h => by obtain ⟨g, e, _⟩ := hs3 h; exact ⟨g, 0, e⟩); have U6 := hidq (J2.out.below hb3); clear hs3 ho3))
                have hgB := hidq (below_trans BQ.out hb3)
                have U3 := hidq hu3
                clear hb3
                go_loopw [124] (fun x wr => ∃ q2 : Nat, q2 ≤ np ∧ x = .int .i64 q2 ∧ Below w.heap.size w wr ∧ Is wr (.slice a3 np cap3) ps ∧ Is wr (.slice (some ⟨b6, o6, none⟩) N cap6) I) (fun x _ => np - (intOf x).toNat)
                case atStart => exact ⟨0, by omega, rfl, hgB.out, U3.out, U6.out⟩
                case round =>
                  obtain ⟨q2, hq2, rfl, hb4, hu4, hi4⟩ := hrel
                  have B4 := hidq hb4
                  have U4 := hidq hu4
                  have I4 := hidq hi4
                  clear hb4 hu4 hi4 U3 U6 hgB
                  by_cases hl2 : q2 < np
                  · obtain ⟨b3, o3, rfl⟩ := S3.out (by omega)
                    obtain ⟨p, hp⟩ : ∃ p, ps[q2]? = some p := ⟨_, List.getElem?_eq_getElem (by rw [HNP.out]; exact hl2)⟩
                    obtain ⟨p1, p2, p3⟩ := HP.out p (List.mem_of_getElem? hp)
                    have cp := Is.cell U4.out (k := q2) (by rw [HNP.out]; exact hl2)
                    rw [hp, Option.getD_some] at cp
                    have PA := hidq (M.among_all I p p1)
                    rw [HNI.out] at PA
                    clear hp p1
                    go_wp2
                    go_loopw [130, 17] (fun x y wr => ∃ j : Nat, j ≤ N ∧ x = .int .i64 j ∧ y = .bool (M.among I p j) ∧ Below w.heap.size w wr ∧ Is wr (.slice (some ⟨b3, o3, none⟩) np cap3) ps ∧ Is wr (.slice (some ⟨b6, o6, none⟩) N cap6) I) (fun x _ _ => N - (intOf x).toNat)
                    case atStart => exact ⟨0, by omega, rfl, by rw [M.among_zero], B4.out, U4.out, I4.out⟩
                    case round =>
                      obtain ⟨j, hj, rfl, rfl, hb5, hu5, hi5⟩ := hrel
                      have B5 := hidq hb5
                      have U5 := hidq hu5
                      have I5 := hidq hi5
                      clear hb5 hu5 hi5 B4 U4 I4
                      by_cases hl3 : j < N
                      · obtain ⟨y, hy⟩ : ∃ y, I[j]? = some y := ⟨_, List.getElem?_eq_getElem (by rw [HNI.out]; exact hl3)⟩
                        have cy := Is.cell I5.out (k := j) (by rw [HNI.out]; exact hl3)
                        rw [hy, Option.getD_some] at cy
                        have AS := hidq (M.among_succ I p j y hy)
                        have hjN : (j : Int) < N := by omega
                        clear hy
                        cases hb : M.among I p j with
                        | true =>
                          rw [hb, Bool.true_or] at AS
                          clear hb
                          go_wp2
                          go_roundw
                          case rel => exact ⟨j + 1, by omega, by go_num, by rw [AS.out], B5.out, U5.out, I5.out⟩
                          case measure => simp [intOf]; omega
                        | false =>
                          rw [hb, Bool.false_or] at AS
                          clear hb
                          by_cases hyp : y = p
                          · rw [decide_eq_true hyp] at AS
                            have hyb : (y == p) = true := beq_iff_eq.2 hyp
                            go_wp2
                            go_roundw
                            case rel => exact ⟨j + 1, by omega, by go_num, by rw [AS.out], B5.out, U5.out, I5.out⟩
                            case measure => simp [intOf]; omega
                          · rw [decide_eq_false hyp] at AS
                            have hyb : (y == p) = false := beq_eq_false_iff_ne.2 hyp
                            go_wp2
                            go_roundw
                            case rel => exact ⟨j + 1, by omega, by go_num, by rw [AS.out], B5.out, U5.out, I5.out⟩
                            case measure => simp [intOf]; omega
                      · obtain rfl : j = N := by omega
                        have hpa := PA.out
                        have hpk : ¬ (k : Int) ≤ p := by omega
                        go_wp2
                        go_roundw
                        case rel => exact ⟨q2 + 1, by omega, by go_num, B5.out, U5.out, I5.out⟩
                        case measure => simp [intOf]; omega
                  · go_wp2
                    go_roundw
                    case rel => exact ⟨q + 1, by omega, by go_num, by rw [MS.out] <;> (congr 1; omega), B4.out, I4.out⟩
                    case measure => simp [intOf]; omega
        · obtain rfl : q = N := by omega
          have hma := MA.out
          generalize M.mx A m I q = z at *
          have zw := wrap64 (x := z + 1) (by omega) (by omega)
          go_wp2
          go_ret
          exact ⟨by first | rfl | simp, BW.out⟩
    · have hi0 : M.withinL A i = [] := by unfold M.withinL; rw [if_neg ht]
      have W1 := hidq hi0
      have W2 : Hid (M.deepE A i = 1) := if_neg ht
      have W3 := hidq (show ∀ x ∈ ([] : List Int), M.fitI x by simp)
      have D1 : Hid (M.dpV A i = 0) := if_neg ht
      clear ht hi0
      generalize A.length = n at *
      go_enter Tryd.func6, Tryd.ntmps6
      go_wp2_with (first | (go_at_call 8; refine (live5_any _ HT.out).mono ?_; rintro r w1 ⟨rfl, hb1⟩; have B1 := hidq hb1; clear hb1) | (go_at_call 21; refine (within_eq W1.out W2.out _ (U.out _ B1.out)).mono ?_; rintro r w6 ⟨v6, rfl, ho6, hb6⟩; have B6 := hidq (below_trans B1.out hb6); have O6 := hidq (Sl.of_own (E := elInt) ho6 W3.out); obtain ⟨a6, cap6, rfl, hc6, _, hs6⟩ := O6.out.form; have S6 := hidq hs6; clear hb6 ho6 hs6) | (go_at_call 19; refine (deep_eq D1.out W2.out _ (U.out _ B6.out)).mono ?_; rintro r w7 ⟨rfl, hb7⟩; have B7 := hidq (below_trans B6.out hb7); have O7 := hidq (O6.out.below hb7); clear hb7))
      go_ret
      exact ⟨rfl, B7.out⟩
  · generalize A.length = n at *
    go_enter Tryd.func6, Tryd.ntmps6
    go_wp2_with (first | (go_at_call 8; refine (live5_any _ HT.out).mono ?_; rintro r w1 ⟨rfl, hb1⟩; have B1 := hidq hb1; clear hb1))
    go_ret
    exact ⟨rfl, B1.out⟩
end Go.Proofs.YtkggcfkjmmijbaaDoor
