/-
  The law DiffTops returns true at every input: each subset's I is Root, or below a fork; no two have one I, and none has another one's J as its own I. Conditions: the slice holds numbers, the numbers fit their kinds.
-/
import Derived.Test.YtjaikcnfepbpgaaZJ5
import Derived.Test.YtjaikcnfepbpgaaZTR
namespace Go.Proofs.Ytjaikcnfepbpgaa
open Go.RowKit
theorem us_max {W : World} {ao : Option Addr} {n cap : Nat} {L : List Int} (h : Us W (.slice ao n cap) L) : n ≤ 9223372036854775807 := by
  obtain ⟨a, c, e, hm, -⟩ := us_view h
  cases e
  exact hm
theorem M.fany_take (F : List Int) (y : Int) (q : Nat) (hq : q < F.length) : (F.take (q + 1)).any (fun z => decide (y = z)) = ((F.take q).any (fun z => decide (y = z)) || decide (y = F[q]?.getD 0)) := by
  rw [take_getD q hq, List.any_append]; simp
set_option maxRecDepth 100000 in
set_option maxHeartbeats 4000000 in
theorem diffTops_long (h : Int) (L : List Int) (v : Value) (w : World) (hu : Us w v L) (hl : ¬ L.length ≤ 30) :
    Calls Try.prog 7 #[.int .i64 h, v] w fun e w' => e = .returned (.bool true) ∧ Below w.heap.size w w' := by
  obtain ⟨ao, cap, rfl, -⟩ := us_view hu
  have hB0 := Below.refl w.heap.size w
  have U0 := hu
  have hli : (30 : Int) < L.length := by omega
  clear hl hu
  have T1 := hidq trivial
  go_enter Try.func7, Try.ntmps7
  go_wp2_with (first | (go_at_call 8; clear T1; refine (live11_any _).mono ?_; rintro e w1 ⟨rfl, hb1⟩; have U1 := (U0.below hb1); clear U0; have hB1 := below_trans hB0 hb1))
  go_ret
  exact ⟨rfl, hB1⟩
set_option maxRecDepth 100000 in
set_option maxHeartbeats 4000000 in
theorem diffTops_no (h : Int) (L : List Int) (v : Value) (w : World) (hu : Us w v L) (hl : L.length ≤ 30) (hs : ¬ M.setE h L = 0) :
    Calls Try.prog 7 #[.int .i64 h, v] w fun e w' => e = .returned (.bool true) ∧ Below w.heap.size w w' := by
  have CA := hidq (fun W v (u : Us W v L) => dcover_any h L v W u)
  have CF := hidq (fun W v (u : Us W v L) => stForks_any h L v W u)
  rw [M.dfL_no hs, M.setE_one hs] at CA
  rw [M.setE_one hs] at CF
  obtain ⟨ao, cap, rfl, -⟩ := us_view hu
  have hB0 := Below.refl w.heap.size w
  have U0 := hu
  have hli : ¬ (30 : Int) < L.length := by omega
  have T1 := hidq trivial
  have T2 := hidq trivial
  generalize M.tfV h L = F at *
  clear hl hu hs
  go_enter Try.func7, Try.ntmps7
  go_wp2_with (first | (go_at_call 8; clear T1; refine (live11_any _).mono ?_; rintro e w1 ⟨rfl, hb1⟩; have U1 := (U0.below hb1); clear U0; have hB1 := below_trans hB0 hb1) | (go_at_call 9; clear T2; refine (CA.out _ _ U1).mono ?_; rintro e w2 ⟨x, rfl, X2, hb2⟩; have U2 := (U1.below hb2); clear U1; have hB2 := (below_trans hB1 hb2); obtain ⟨aX2, cX2, rfl, kX2, -, vX2⟩ := X2.form) | (go_at_call 23; refine (CF.out _ _ U2).mono ?_; rintro e w3 ⟨x, rfl, F3, hb3⟩; have X3 := X2.below hb3; clear U2 X2; have hB3 := hidq (below_trans hB2 hb3); obtain ⟨aF3, cF3, rfl, -⟩ := us_view F3))
  go_ret
  exact ⟨rfl, hB3.out⟩
set_option maxRecDepth 100000 in
set_option maxHeartbeats 8000000 in
theorem diffTops_yes (h : Int) (L : List Int) (v : Value) (w : World) (hu : Us w v L) (hl : L.length ≤ 30) (hs : M.setB h L = true) :
    Calls Try.prog 7 #[.int .i64 h, v] w fun e w' => e = .returned (.bool true) ∧ Below w.heap.size w w' := by
  have CA := hidq (fun W v (u : Us W v L) => dcover_any h L v W u)
  have CF := hidq (fun W v (u : Us W v L) => stForks_any h L v W u)
  have HFi := hidq (M.dfL_fit hs)
  obtain ⟨f1, f2⟩ := M.dfL_tops hs
  have HTo := hidq f1
  have HNj := hidq f2
  obtain ⟨b1, b2⟩ := M.dfL_bound hs
  have hdl : M.dbV h L.length ≤ 61 := by unfold M.dbV; rw [b1, if_pos rfl]; split <;> omega
  have HCl := hidq (show (M.dfL h L).length ≤ 61 by omega)
  have hr := M.dfL_rise hs
  rw [M.setE_zero.2 hs] at CA CF
  rw [show M.tfV h L = M.forks h L by unfold M.tfV; rw [if_pos (M.setE_zero.2 hs)]; rfl] at CF
  have HFo := hidq (fun f hf => M.forks_ok (h := h) (L := L) hs (f := f) hf)
  generalize M.dfL h L = C at *
  have HRR := hidq (fun (q k : Nat) (x y : Int × Int) (hq : C[q]? = some x) (hk : C[k]? = some y) (hqk : q < k) => show x.1 < y.1 by
    obtain ⟨h1, rfl⟩ := List.getElem?_eq_some_iff.1 hq
    obtain ⟨h2, rfl⟩ := List.getElem?_eq_some_iff.1 hk
    exact List.pairwise_iff_getElem.1 hr q k h1 h2 hqk)
  generalize M.forks h L = F at *
  obtain ⟨ao, cap, rfl, -⟩ := us_view hu
  have hB0 := Below.refl w.heap.size w
  have U0 := hu
  have hli : ¬ (30 : Int) < L.length := by omega
  have T1 := hidq trivial
  have T2 := hidq trivial
  clear hl hu hs f1 f2 b1 b2 hdl hr
  go_enter Try.func7, Try.ntmps7
  go_wp2_with (first | (go_at_call 8; clear T1; refine (live11_any _).mono ?_; rintro e w1 ⟨rfl, hb1⟩; have U1 := (U0.below hb1); clear U0; have hB1 := below_trans hB0 hb1) | (go_at_call 9; clear T2; refine (CA.out _ _ U1).mono ?_; rintro e w2 ⟨x, rfl, X2, hb2⟩; have U2 := (U1.below hb2); clear U1; have hB2 := (below_trans hB1 hb2); obtain ⟨aX2, cX2, rfl, kX2, -, vX2⟩ := X2.form) | (go_at_call 23; refine (CF.out _ _ U2).mono ?_; rintro e w3 ⟨x, rfl, F3, hb3⟩; have X3 := X2.below hb3; clear U2 X2; have hB3 := hidq (below_trans hB2 hb3); obtain ⟨aF3, cF3, rfl, -⟩ := us_view F3))
  generalize hN : C.length = N at *
  generalize hK : F.length = K at *
  have HN := hidq hN
  have HK := hidq hK
  have hN8 := HCl.out
  clear hN hK
  have hK8 : K ≤ 9223372036854775807 := by
    have := us_max F3
    exact this
  go_loopw [44] (fun a wr => ∃ (j : Nat), j ≤ N ∧ a = .int .i64 j ∧ Below w3.heap.size w3 wr) (fun a _ => N - (intOf a).toNat)
  case atStart => exact ⟨0, by omega, rfl, Below.refl _ _⟩
  case round =>
    obtain ⟨j, hj, rfl, hb⟩ := hrel
    obtain ⟨wz, hwz⟩ : ∃ wz, wz = wr := ⟨_, rfl⟩
    subst hwz
    have BX := hidq hb
    by_cases hjn : j < N
    · have hji : (j : Int) < N := by omega
      obtain ⟨bF, oF, rfl⟩ := vX2 (by omega)
      have HJL := hidq (show j < C.length by rw [HN.out]; exact hjn)
      obtain ⟨s, hsj⟩ : ∃ s, C[j]? = some s := ⟨_, List.getElem?_eq_getElem HJL.out⟩
      obtain ⟨x1, x2⟩ := Ss.at (X3.below hb) hsj
      have hm := List.mem_of_getElem? hsj
      have HRj := hidq (fun q t (hq : C[q]? = some t) (hqj : q < j) => HRR.out q j t s hq hsj hqj)
      obtain ⟨f1, f2, f3, f4, -⟩ := HFi.out s hm
      have hto := HTo.out s hm
      have HNJ := hidq (fun t ht => HNj.out s hm t ht)
      obtain ⟨y, d⟩ := s
      dsimp only at x1 x2 HRj f1 f2 f3 f4 hto HNJ
      have SX := hidq (Bi.new wz 36 y d)
      obtain ⟨SXa, SXb⟩ := SX.out.facts
      have RX := hidq (below_one (o := (.cells #[.int .u64 y, .int .u64 d] 36)) (Below.refl wz.heap.size wz))
      have XR := hidq (X3.below hb)
      have FR := hidq (F3.below hb)
      obtain ⟨r1, hr1⟩ : ∃ r1, decide (y = 1) = r1 := ⟨_, rfl⟩
      have hr1' : (y == 1) = r1 := hr1
      have HEnd := hidq (show (r1 || F.any (fun z => decide (y / 2 = z))) = true by
        rw [← hr1]
        rcases hto with h1 | h1
        · rw [decide_eq_true h1]; rfl
        · rw [Bool.or_eq_true, List.any_eq_true]
          exact .inr ⟨_, h1, decide_eq_true rfl⟩)
      clear hm hb hto hsj hr1
      go_wp2
      go_loopw [54, 12] (fun a b wr => ∃ (q : Nat), q ≤ K ∧ a = .int .i64 q ∧ b = .bool (r1 || (F.take q).any (fun z => decide (y / 2 = z))) ∧ Below (wz.alloc (.cells #[.int .u64 y, .int .u64 d] 36)).heap.size (wz.alloc (.cells #[.int .u64 y, .int .u64 d] 36)) wr) (fun a _ _ => K - (intOf a).toNat)
      case atStart => exact ⟨0, by omega, rfl, by simp, Below.refl _ _⟩
      case round =>
        obtain ⟨q, hq, rfl, rfl, hbq⟩ := hrel
        obtain ⟨wq0, hwq⟩ : ∃ wq0, wq0 = wr := ⟨_, rfl⟩
        subst hwq
        have BQ := hidq hbq
        have SQ := hidq (SX.out.below hbq)
        have XQ := hidq ((XR.out.below RX.out).below hbq)
        obtain ⟨SQa, SQb⟩ := SQ.out.facts
        by_cases hqn : q < K
        · have hqi : (q : Int) < K := by omega
          obtain ⟨bK, oK, rfl⟩ := us_ptr F3 (by omega)
          have hql : q < F.length := by rw [HK.out]; exact hqn
          have fc := ((FR.out.below RX.out).below hbq).cellAt q hql
          have HT := hidq (M.fany_take F (y / 2) q hql)
          generalize F[q]?.getD 0 = f at *
          obtain ⟨r0, hr0⟩ : ∃ r0, (r1 || (F.take q).any fun z => decide (y / 2 = z)) = r0 := ⟨_, rfl⟩
          obtain ⟨r2, hr2⟩ : ∃ r2, decide (y / 2 = f) = r2 := ⟨_, rfl⟩
          have hr2' : (y / 2 == f) = r2 := hr2
          have HN2 := hidq (show (r1 || (F.take (q + 1)).any fun z => decide (y / 2 = z)) = (r0 || r2) by rw [HT.out, ← hr0, hr2, Bool.or_assoc])
          rw [hr0]
          clear hbq hql hr0 hr2
          cases r0 with
          | true =>
            go_wp2
            go_roundw
            case rel => exact ⟨q + 1, by omega, by go_num, by rw [HN2.out]; rfl, BQ.out⟩
            case measure => simp [intOf]; omega
          | false =>
            go_wp2
            go_roundw
            case rel => exact ⟨q + 1, by omega, by go_num, by rw [HN2.out]; rfl, BQ.out⟩
            case measure => simp [intOf]; omega
        · obtain rfl : q = K := by omega
          have hqi : ¬ (q : Int) < q := by omega
          have hE := HEnd.out
          rw [← List.take_of_length_le (l := F) (i := q) (by rw [HK.out]; exact Nat.le_refl _)] at hE
          rw [hE]
          clear hE hbq
          go_wp2
          by_cases hj0 : ¬ (0 : Int) < j
          · have hjd : decide ((0 : Int) < (j : Int)) = false := decide_eq_false hj0
            have hjd3 : decide (0 < j) = false := decide_eq_false (by omega)
            obtain ⟨G', HG, HFc, HOc, HW, ne⟩ := clq_of wz wq0 (fun X' => Bi X' wz.heap.size 36 y d ∧ Ss X' (.slice (some ⟨bF, oF, none⟩) N cX2) C) (fun _ _ h hb => ⟨h.1.below hb, h.2.below hb⟩) ⟨SQ.out, XQ.out⟩ (below_trans RX.out BQ.out)
            have h1c := fun c : Clq G' => (HFc.out c).1.facts.1
            have h2c := fun c : Clq G' => (HFc.out c).1.facts.2
            refine regionq (by kernel_rfl) (by kernel_rfl) HW.out ?_
            repeat (go_big_quiet_step (fail))
            refine wpQuiet_nil ?_
            rintro _ ⟨s9, rfl⟩
            have S9 := hidq (HFc.out s9).1
            have X9 := hidq (HFc.out s9).2
            have Q9 := hidq (HOc.out s9)
            generalize s9.W = W9 at *
            clear h1c h2c
            go_wp2
            go_loopw [86] (fun a wr => ∃ (p : Nat), p ≤ N ∧ a = .int .i64 p ∧ Below W9.heap.size W9 wr) (fun a _ => N - (intOf a).toNat)
            case atStart => exact ⟨0, by omega, rfl, Below.refl _ _⟩
            case round =>
              obtain ⟨p, hp, rfl, hbp⟩ := hrel
              have BP := hidq hbp
              have S7 := S9.out.below hbp
              by_cases hpn : p < N
              · have hpi : (p : Int) < N := by omega
                obtain ⟨t, htp⟩ : ∃ t, C[p]? = some t := ⟨_, List.getElem?_eq_getElem (by rw [HN.out]; exact hpn)⟩
                obtain ⟨z1, z2⟩ := Ss.at (X9.out.below hbp) htp
                have hne := HNJ.out t (List.mem_of_getElem? htp)
                obtain ⟨z, e⟩ := t
                dsimp only at z1 z2 hne
                have S8 := S7.alloc (.cells #[.int .u64 z, .int .u64 e] 36)
                obtain ⟨S8a, S8b⟩ := S8.facts
                have Z0 := Bi.new wr 36 z e
                obtain ⟨Z0a, Z0b⟩ := Z0.facts
                have hnb : (e == y) = false := by rw [beq_eq_false_iff_ne]; exact hne
                clear hbp htp S7
                go_wp2
                go_roundw
                case rel => exact ⟨p + 1, by omega, by go_num, below_one BP.out⟩
                case measure => simp [intOf]; omega
              · obtain rfl : p = N := by omega
                have hpi : ¬ (p : Int) < p := by omega
                clear hbp S7
                go_wp2
                go_roundw
                case rel => exact ⟨j + 1, by omega, by go_num, below_trans (below_trans BX.out Q9.out) BP.out⟩
                case measure => simp [intOf]; omega
          · obtain ⟨k, hk⟩ : ∃ k, j = k + 1 := ⟨j - 1, by omega⟩
            have hjg : (0 : Int) < j := by omega
            have hjg2 : 0 < j := by omega
            have hjk : (j : Int) - 1 = k := by omega
            have hkt : ((k : Int)).toNat = k := rfl
            have hkl : (k : Int) < N := by omega
            have hkw : IntKind.i64.wrap (j - 1 : Int) = k := by rw [IntKind.wrap_i64]; omega
            obtain ⟨t, hyk⟩ : ∃ t, C[k]? = some t := ⟨_, List.getElem?_eq_getElem (by have := HJL.out; omega)⟩
            have hlt := HRj.out k t hyk (by omega)
            obtain ⟨z, e⟩ := t
            dsimp only at hlt
            have hzb : (z == y) = false := by rw [beq_eq_false_iff_ne]; omega
            have hzn : ¬ z = y := by omega
            clear hj0 hk hlt
            obtain ⟨G', HG, HFc, HOc, HW, ne⟩ := clq_of wz wq0 (fun X' => Bi X' wz.heap.size 36 y d ∧ Ss X' (.slice (some ⟨bF, oF, none⟩) N cX2) C) (fun _ _ h hb => ⟨h.1.below hb, h.2.below hb⟩) ⟨SQ.out, XQ.out⟩ (below_trans RX.out BQ.out)
            have h1c := fun c : Clq G' => (HFc.out c).1.facts.1
            have h2c := fun c : Clq G' => (HFc.out c).1.facts.2
            have h3c := fun c : Clq G' => (Ss.at (HFc.out c).2 hyk).1
            have h4c := fun c : Clq G' => (Ss.at (HFc.out c).2 hyk).2
            dsimp only at h3c h4c
            refine regionq (by kernel_rfl) (by kernel_rfl) HW.out ?_
            repeat (go_big_quiet_step (fail))
            refine wpQuiet_nil ?_
            rintro _ ⟨s9, rfl⟩
            have S9 := hidq (HFc.out s9).1
            have X9 := hidq (HFc.out s9).2
            have Q9 := hidq (HOc.out s9)
            generalize s9.W = W9 at *
            clear h1c h2c h3c h4c
            go_wp2
            go_loopw [86] (fun a wr => ∃ (p : Nat), p ≤ N ∧ a = .int .i64 p ∧ Below W9.heap.size W9 wr) (fun a _ => N - (intOf a).toNat)
            case atStart => exact ⟨0, by omega, rfl, Below.refl _ _⟩
            case round =>
              obtain ⟨p, hp, rfl, hbp⟩ := hrel
              have BP := hidq hbp
              have S7 := S9.out.below hbp
              by_cases hpn : p < N
              · have hpi : (p : Int) < N := by omega
                obtain ⟨t, htp⟩ : ∃ t, C[p]? = some t := ⟨_, List.getElem?_eq_getElem (by rw [HN.out]; exact hpn)⟩
                obtain ⟨z1, z2⟩ := Ss.at (X9.out.below hbp) htp
                have hne := HNJ.out t (List.mem_of_getElem? htp)
                obtain ⟨z, e⟩ := t
                dsimp only at z1 z2 hne
                have S8 := S7.alloc (.cells #[.int .u64 z, .int .u64 e] 36)
                obtain ⟨S8a, S8b⟩ := S8.facts
                have Z0 := Bi.new wr 36 z e
                obtain ⟨Z0a, Z0b⟩ := Z0.facts
                have hnb : (e == y) = false := by rw [beq_eq_false_iff_ne]; exact hne
                clear hbp htp S7
                go_wp2
                go_roundw
                case rel => exact ⟨p + 1, by omega, by go_num, below_one BP.out⟩
                case measure => simp [intOf]; omega
              · obtain rfl : p = N := by omega
                have hpi : ¬ (p : Int) < p := by omega
                clear hbp S7
                go_wp2
                go_roundw
                case rel => exact ⟨j + 1, by omega, by go_num, below_trans (below_trans BX.out Q9.out) BP.out⟩
                case measure => simp [intOf]; omega
    · obtain rfl : j = N := by omega
      have hji : ¬ (j : Int) < j := by omega
      clear hb
      go_wp2
      go_ret
      exact ⟨rfl, below_trans hB3.out BX.out⟩
set_option maxRecDepth 100000 in
theorem diffTops_walk (h : Int) (L : List Int) (v : Value) (w : World) (_ : -9223372036854775808 ≤ h) (_ : h ≤ 9223372036854775807) (hu : Us w v L) :
    Calls Try.prog 7 #[.int .i64 h, v] w fun e w' => e = .returned (.bool true) ∧ Below w.heap.size w w' := by
  by_cases hl : L.length ≤ 30
  · by_cases hs : M.setE h L = 0
    · exact diffTops_yes h L v w hu hl (M.setE_zero.1 hs)
    · exact diffTops_no h L v w hu hl hs
  · exact diffTops_long h L v w hu hl
end Go.Proofs.Ytjaikcnfepbpgaa
