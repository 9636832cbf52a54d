/-
  What diff.Cover and Bound answer at every input; the law's own example. Conditions: the slice holds numbers, they fit their kind.
-/
import Derived.Test.YtmicgojojkkkhaaGreatZJ3
namespace Go.Proofs.YtmicgojojkkkhaaGreat
open Go.RowKit
set_option maxRecDepth 100000 in
set_option maxHeartbeats 4000000 in
theorem dtops_any (h : Int) (F : List Int) (v : Value) (w : World) (hu : Us w v F) (hp32 : M.p2 h ≤ 4294967296) (hf : ∀ f ∈ F, M.okB h f = true ∧ f < M.p2 h ∧ 1 ≤ f) (hl : F.length ≤ 1024) :
    Calls Tryz.prog 40 #[.int .i64 h, v] w fun e w' => ∃ v', e = .returned v' ∧ Us w' v' (1 :: F.flatMap M.kids2) ∧ Below w.heap.size w w' := by
  obtain ⟨i0, hi, hz0, hz1, hz2⟩ := info_parts Tryz.infoU64
  obtain ⟨ao, cap, rfl, -, hv⟩ := us_view hu
  have V1 := hidq hv
  have U1 := hidq hu
  have HFo := hidq hf
  have HFl := hidq hl
  clear hu hv hf hl
  generalize hK : F.length = K at *
  have HK := hidq hK
  clear hK
  obtain ⟨Fn, hFn⟩ : ∃ Fn : Nat → List Int, ∀ k, Fn k = 1 :: (F.take k).flatMap M.kids2 := ⟨_, fun _ => rfl⟩
  have HF0 := hidq (show Fn 0 = [1] by rw [hFn]; rfl)
  have HFK := hidq (show Fn K = 1 :: F.flatMap M.kids2 by rw [hFn, List.take_of_length_le (by rw [HK.out]; exact Nat.le_refl _)])
  have HFn := hidq (fun k (hk : k < F.length) => show Fn (k + 1) = Fn k ++ [2 * (F[k]?.getD 0), 2 * (F[k]?.getD 0) + 1] by rw [hFn, hFn, M.tops_take F k hk])
  have HFs := hidq (fun k => show (Fn k).length ≤ 2049 by
    rw [hFn, List.length_cons, M.kids2_flat, List.length_take]
    have := HFl.out
    have := HK.out
    omega)
  clear hFn
  rw [← HFK.out]
  go_enter Tryz.func40, Tryz.ntmps40
  go_wp2
  go_loopw [14, 5] (fun i x wr => ∃ k : Nat, k ≤ K ∧ i = .int .i64 k ∧ Qu wr w.heap.size 23 x (Fn k) ∧ Below w.heap.size w wr) (fun i _ _ => K - (intOf i).toNat)
  case atStart => exact ⟨0, by omega, rfl, by rw [HF0.out]; exact Qu.one _ _ _ (by omega) (by omega) (Nat.le_refl _), below_one (Below.refl _ _)⟩
  case round =>
    obtain ⟨k, hk, rfl, hq, hb⟩ := hrel
    obtain ⟨ax, cx, rfl, -⟩ := hq.form
    have QO := hidq hq
    have BB := hidq hb
    by_cases hkn : k < K
    · have hki : (k : Int) < K := by omega
      obtain ⟨bF, oF, rfl, -⟩ := V1.out (by omega)
      have hkl : k < F.length := by rw [HK.out]; exact hkn
      have yc := (U1.out.below hb).cellAt k hkl
      have hfo := HFo.out (F[k]?.getD 0) (by rw [List.getElem?_eq_getElem hkl]; exact List.getElem_mem hkl)
      have HT := hidq (HFn.out k hkl)
      have hl9 := HFs.out k
      generalize F[k]?.getD 0 = f at *
      obtain ⟨g1, g2, g4⟩ := hfo
      have hK8 := HFl.out
      obtain ⟨Hn, hHn⟩ : ∃ Hn : Nat → List Int, ∀ q, Hn q = Fn k ++ (M.kids2 f).take q := ⟨_, fun _ => rfl⟩
      have HH0 := hidq (show Hn 0 = Fn k by rw [hHn]; simp)
      have HH2 := hidq (show Hn 2 = Fn (k + 1) by rw [hHn, HT.out]; rfl)
      have HHn := hidq (fun q (hq : q < 2) => show Hn (q + 1) = Hn q ++ [2 * f + q] by
        rw [hHn, hHn]
        obtain rfl | rfl : q = 0 ∨ q = 1 := by omega
        · simp [M.kids2]
        · simp [M.kids2])
      have HHs := hidq (fun (q : Nat) => show (Hn q).length ≤ 2051 by
        rw [hHn, List.length_append, List.length_take]
        have := HFs.out k
        have : (M.kids2 f).length = 2 := rfl
        omega)
      clear hq hb hkl hHn
      go_wp2
      go_loopw [18, 5] (fun i x wr => ∃ (q : Nat), q ≤ 2 ∧ i = .int .i64 q ∧ Qu wr w.heap.size 23 x (Hn q) ∧ Below w.heap.size w wr) (fun i _ _ => 2 - (intOf i).toNat)
      case atStart => exact ⟨0, by omega, rfl, by rw [HH0.out]; exact QO.out, BB.out⟩
      case round =>
        obtain ⟨q, hq2, rfl, hq, hb⟩ := hrel
        obtain ⟨az, cz, rfl, -⟩ := hq.form
        have QI := hidq hq
        have BI := hidq hb
        have hol := HHs.out q
        clear hq hb
        by_cases hlt : q < 2
        · have hqi : (q : Int) < 2 := by omega
          have hcE : M.childE h f q = 0 := M.childE_yes g1 (by omega) g2
          have hcV : M.childV h f q = 2 * f + q := by unfold M.childV; rw [if_pos hcE]
          have hf2 : 0 ≤ 2 * f + (q : Int) := by omega
          have hf3 : 2 * f + (q : Int) ≤ 18446744073709551615 := by omega
          have HR := hidq (HHn.out q hlt)
          go_wp2_with (first | (go_at_call 72; refine (child_any h f _ _ (by omega) (by omega)).mono ?_; rw [hcV, hcE]; rintro e w' ⟨rfl, hw⟩; subst w') | (at_builtin; refine wpList_append_qu rfl _ _ 22 rfl w.heap.size 23 i0 Tryz.underlying22 hi hz0 hz1 hz2 _ _ rfl (QI.out.alloc (.cells #[.int .u64 (2 * f + q)] 23)) _ [2 * f + q] rfl (Us.one _ _ _ hf2 hf3) (by simp only [List.length_cons, List.length_nil]; omega) (by have := BI.out.size; simp; omega) ?_; intro v3 w3 q3 g3 n3; obtain ⟨ao3, cap3, rfl, -⟩ := q3.form; rw [show (Hn q ++ [2 * f + (q : Int)]).length = (Hn q).length + 1 by simp] at q3; have B3 := hidq (qu_below (below_one (o := (.cells #[.int .u64 (2 * f + q)] 23)) BI.out) g3 (QI.out.alloc (.cells #[.int .u64 (2 * f + q)] 23)) (by have := BI.out.size; simp; omega)); have Q3 := hidq q3; clear q3 g3 n3))
          go_roundw
          case rel => exact ⟨q + 1, by omega, by go_num, by rw [HR.out]; exact Q3.out, B3.out⟩
          case measure => simp [intOf]; omega
        · obtain rfl : q = 2 := by omega
          have hqi : ¬ ((2 : Nat) : Int) < 2 := by omega
          go_wp2
          go_roundw
          case rel => exact ⟨k + 1, by omega, by go_num, by rw [← HH2.out]; exact QI.out, BI.out⟩
          case measure => simp [intOf]; omega
    · obtain rfl : k = K := by omega
      have hki : ¬ (k : Int) < k := by omega
      have UT := hidq hq.us
      clear hq hb
      go_wp2
      go_ret
      exact ⟨_, rfl, UT.out, BB.out⟩
set_option maxRecDepth 100000 in
set_option maxHeartbeats 4000000 in
theorem dcover_any (h : Int) (L : List Int) (v : Value) (w : World) (hu : Us w v L) :
    Calls Tryz.prog 15 #[.int .i64 h, v] w fun e w' => ∃ v', e = .returned (.tuple #[v', .int .i64 (M.setE h L)]) ∧ Ss w' v' (M.dfL h L) ∧ Below w.heap.size w w' := by
  obtain ⟨i0, hi, hz0, hz1, hz2⟩ := info_parts Tryz.infoU64
  obtain ⟨ao, cap, rfl, -⟩ := us_view hu
  have FC := hidq (fun W (u : Us W (.slice ao L.length cap) L) => stForks_any h L _ W u)
  by_cases hE : M.setE h L = 0
  · have hs := M.setE_zero.1 hE
    rw [hE] at FC ⊢
    by_cases hn : L = []
    · have hl0 : (L.length : Int) = 0 := by rw [hn]; rfl
      rw [show M.dfL h L = [(1, 0)] by subst hn; exact M.dfL_nil hs]
      clear hE hs hn
      go_enter Tryz.func15, Tryz.ntmps15
      go_wp2_with (first | (go_at_call 39; refine (FC.out _ hu).mono ?_; rintro e w1 ⟨v1, rfl, u1, hb1⟩; have B1 := hidq hb1; obtain ⟨a1, c1, rfl, -, hv1⟩ := us_view u1; have U1 := hidq u1; have V1 := hidq hv1; clear u1 hb1 hv1))
      go_ret2
      exact ⟨_, rfl, Ss.oneq _ _ 1 0 _ (by first | rfl | simp) (by omega), below_one B1.out⟩
    · have hl1 : 0 < L.length := List.length_pos_iff.2 hn
      have hl0 : ¬ (L.length : Int) = 0 := by omega
      have hl2 : ((L.length : Int) == 0) = false := by rw [beq_eq_false_iff_ne]; exact hl0
      rw [M.dfL_yes hs hn]
      have HFo := hidq (fun f hf => M.forks_ok (h := h) (L := L) hs (f := f) hf)
      obtain ⟨s1, s2, s3, -⟩ := M.set_of hs
      have hp32 := M.p2_32 s2
      have HFl := hidq (show (M.forks h L).length ≤ 1024 by have := M.forks_len hs hn; omega)
      have HTt := hidq (show M.tops h L = 1 :: (M.forks h L).flatMap M.kids2 from rfl)
      have HTo := hidq (fun n hn' => M.tops_in (h := h) (L := L) hs hn (n := n) hn')
      have HTl := hidq (show (M.tops h L).length ≤ 2048 by have := M.tops_len hs hn; omega)
      have HDo := hidq (fun n hn' => (M.dfX_sub (h := h) (L := L) hs hn (n := n) hn').2.2.2.1)
      have HTr := hidq (M.tops_rise hs)
      have HDk := hidq (fun n (hn' : M.inT h L n = true) => show 0 ≤ M.dnV h L n ∧ M.dnV h L n ≤ 18446744073709551615 by
        obtain ⟨B, b, c, D⟩ := M.dn_of hs hn'
        have := (M.ok_of D.om).2.2.1
        have := M.ok_lt D.om
        omega)
      rw [show M.tfV h L = M.forks h L by unfold M.tfV; rw [if_pos hE]; rfl] at FC
      unfold M.dfX
      generalize M.tops h L = T at *
      generalize M.forks h L = F at *
      have DT := hidq (fun W u hu => dtops_any h F u W hu hp32 (fun f hf => ⟨(HFo.out f hf).1, (HFo.out f hf).2.1, (HFo.out f hf).2.2.2⟩) HFl.out)
      rw [← HTt.out] at DT
      have UL := hidq hu
      clear hE hs hn s1 s2 s3 hl1
      go_enter Tryz.func15, Tryz.ntmps15
      go_wp2_with (first | (go_at_call 39; refine (FC.out _ hu).mono ?_; rintro e w1 ⟨v1, rfl, u1, hb1⟩; have B1 := hidq hb1; obtain ⟨a1, c1, rfl, -, hv1⟩ := us_view u1; have U1 := hidq u1; have V1 := hidq hv1; clear u1 hb1 hv1) | (go_at_call 40; refine (DT.out _ _ U1.out).mono ?_; rintro e w2 ⟨v2, rfl, u2, hb2⟩; obtain ⟨a2, c2, rfl, -, hv2⟩ := us_view u2; have UT := hidq u2; have HVT := hidq (fun h0 => us_ptr u2 h0); have B5 := hidq (below_trans B1.out hb2); clear u2 hb2 hv2))
      obtain ⟨w5, hw5⟩ : ∃ w5, w5 = w2 := ⟨_, rfl⟩
      subst hw5
      generalize hM : T.length = M' at *
      have HM := hidq hM
      clear hM
      obtain ⟨Gn, hGn⟩ : ∃ Gn : Nat → List Int, ∀ k, Gn k = (T.take k).filter (fun n => decide (M.dnV h L n ≠ n)) := ⟨_, fun _ => rfl⟩
      obtain ⟨Pn, hPn⟩ : ∃ Pn : Nat → List (Int × Int), ∀ k, Pn k = (Gn k).map (fun n => (n, M.dnV h L n)) := ⟨_, fun _ => rfl⟩
      have HP0 := hidq (show Pn 0 = [] by rw [hPn, hGn]; rfl)
      have HPM := hidq (show Pn M' = (T.filter fun n => decide (M.dnV h L n ≠ n)).map (fun n => (n, M.dnV h L n)) by rw [hPn, hGn, List.take_of_length_le (by rw [HM.out]; exact Nat.le_refl _)])
      have HPs := hidq (fun k => show (Pn k).length ≤ 2048 by
        rw [hPn, List.length_map, hGn]
        have h1 := List.length_filter_le (fun n => decide (M.dnV h L n ≠ n)) (T.take k)
        rw [List.length_take] at h1
        have := HTl.out
        have := HM.out
        omega)
      have HPY := hidq (fun k (hk : k < T.length) (hx : M.dnV h L (T[k]?.getD 0) ≠ T[k]?.getD 0) => show Pn (k + 1) = Pn k ++ [(T[k]?.getD 0, M.dnV h L (T[k]?.getD 0))] by
        rw [hPn, hPn, hGn, hGn, M.dfX_take k hk, if_pos hx, List.map_append]; rfl)
      have HPN := hidq (fun k (hk : k < T.length) (hx : ¬ M.dnV h L (T[k]?.getD 0) ≠ T[k]?.getD 0) => show Pn (k + 1) = Pn k by
        rw [hPn, hPn, hGn, hGn, M.dfX_take k hk, if_neg hx, List.append_nil])
      clear hGn hPn
      go_loopw [31, 8] (fun i x wr => ∃ k : Nat, k ≤ M' ∧ i = .int .i64 k ∧ wr.ownsRow w5.heap.size 25 2 x (Pn k).length (elSub.cells (Pn k)) ∧ Below w5.heap.size w5 wr) (fun i _ _ => M' - (intOf i).toNat)
      case atStart => exact ⟨0, by omega, rfl, by rw [HP0.out]; exact World.ownsRow_nil _ _ _ _, Below.refl _ _⟩
      case round =>
        obtain ⟨k, hk, rfl, hown, hb⟩ := hrel
        have HO := hidq hown
        have HB := hidq hb
        by_cases hkn : k < M'
        · have hki : (k : Int) < M' := by omega
          obtain ⟨bT, oT, rfl⟩ := HVT.out (by omega)
          have hkl : k < T.length := by rw [HM.out]; exact hkn
          have yc := (UT.out.below hb).cellAt k hkl
          have hm : T[k]?.getD 0 ∈ T := by rw [List.getElem?_eq_getElem hkl]; exact List.getElem_mem hkl
          have hin := HTo.out _ hm
          have hky := (M.inT_iff.1 hin).1
          obtain ⟨hd0, hd1⟩ := HDk.out _ hin
          have hpy := HPY.out k hkl
          have hpn := HPN.out k hkl
          have hPs := HPs.out k
          have hM8 := HTl.out
          generalize T[k]?.getD 0 = y at *
          have hy0 : 0 ≤ y := by have := (M.ok_of hky).2.2.1; omega
          have hy1 : y ≤ 18446744073709551615 := by have := M.ok_lt hky; omega
          obtain ⟨d, hd⟩ : ∃ d, M.dnV h L y = d := ⟨_, rfl⟩
          obtain ⟨dE, hdE⟩ : ∃ dE, M.dnE h L y = dE := ⟨_, rfl⟩
          rw [hd] at hd0 hd1 hpy hpn
          have HHd := hidq hd
          have HHe := hidq hdE
          clear hown hb hkl hm hin hky hd hdE
          by_cases hne : d = y
          · have HPN' := hidq (hpn fun hx => hx hne)
            subst hne
            clear hpy hpn
            go_wp2_with (first | (go_at_call 41; refine (stDown_any h L _ _ _ (UL.out.below (below_trans B5.out HB.out)) hy0 hy1).mono ?_; rw [HHd.out, HHe.out]; rintro e w6 ⟨rfl, hb6⟩; have B6 := hidq (below_trans HB.out hb6); have O6 := hidq (own_kept HO.out hb6); clear hb6))
            go_roundw
            case rel => exact ⟨k + 1, by omega, by go_num, by rw [HPN'.out]; exact O6.out, B6.out⟩
            case measure => simp [intOf]; omega
          · have HPY' := hidq (hpy hne)
            have hnb : (d == y) = false := by rw [beq_eq_false_iff_ne]; exact hne
            clear hpy hpn
            go_wp2_with (first | (go_at_call 41; refine (stDown_any h L _ _ _ (UL.out.below (below_trans B5.out HB.out)) hy0 hy1).mono ?_; rw [HHd.out, HHe.out]; rintro e w6 ⟨rfl, hb6⟩; have B6 := hidq (below_trans HB.out hb6); have O6 := hidq (own_kept HO.out hb6); clear hb6) | (at_builtin; refine wpList_append_sl (E := elSub) rfl _ _ rfl w5.heap.size _ _ _ rfl (own_kept O6.out (below_one (o := (.cells #[.int .u64 y, .int .u64 d] 25)) (Below.refl w6.heap.size w6))) _ [(y, d)] rfl (Ss.oneq _ _ y d _ (by first | rfl | simp) ⟨hy0, hy1, hd0, hd1⟩) (by simp only [List.length_cons, List.length_nil]; omega) (by have := B6.out.size; simp; omega) ?_; intro v7 w7 hown7 hgrow7; have O7 := hidq hown7; have B7 := hidq ((below_one (o := (.cells #[.int .u64 y, .int .u64 d] 25)) B6.out).grown hgrow7 (by have := B6.out.size; simp; omega) (fun q hq => (O6.out.lt q hq).1)); clear hown7 hgrow7))
            go_roundw
            case rel => exact ⟨k + 1, by omega, by go_num, by rw [HPY'.out, List.length_append]; exact O7.out, B7.out⟩
            case measure => simp [intOf]; omega
        · obtain rfl : k = M' := by omega
          have hki : ¬ (k : Int) < k := by omega
          have hPs := HPs.out k
          rw [HPM.out] at hown hPs
          have HSF : ∀ x ∈ (T.filter fun n => decide (M.dnV h L n ≠ n)).map (fun n => (n, M.dnV h L n)), 0 ≤ x.1 ∧ x.1 ≤ 18446744073709551615 ∧ 0 ≤ x.2 ∧ x.2 ≤ 18446744073709551615 := fun x hx => by
            obtain ⟨n, hn, rfl⟩ := List.mem_map.1 hx
            have hin := HTo.out n (List.mem_filter.1 hn).1
            have hky := (M.inT_iff.1 hin).1
            have := (M.ok_of hky).2.2.1
            have := M.ok_lt hky
            obtain ⟨hd0, hd1⟩ := HDk.out _ hin
            exact ⟨by dsimp only; omega, by dsimp only; omega, hd0, hd1⟩
          generalize hPL : (T.filter fun n => decide (M.dnV h L n ≠ n)).map (fun n => (n, M.dnV h L n)) = PL at *
          have HPL := hidq hPL
          clear hPL
          have HS := hidq (own_form2 hown HSF)
          clear hown hb hPs
          go_wp2
          go_ret2
          exact ⟨_, rfl, by first | (rw [HPL.out]; exact HS.out) | (rw [show (fun n => !decide (M.dnV h L n = n)) = (fun n => decide (M.dnV h L n ≠ n)) from funext fun n => by simp, HPL.out]; exact HS.out), below_trans B5.out HB.out⟩
  · rw [M.setE_one hE] at FC
    rw [M.dfL_no hE, M.setE_one hE]
    clear hE
    go_enter Tryz.func15, Tryz.ntmps15
    go_wp2_with (first | (go_at_call 39; refine (FC.out _ hu).mono ?_; rintro e w1 ⟨v1, rfl, u1, hb1⟩; have B1 := hidq hb1; obtain ⟨a1, c1, rfl, -, hv1⟩ := us_view u1; have U1 := hidq u1; have V1 := hidq hv1; clear u1 hb1 hv1))
    go_ret2
    exact ⟨_, rfl, Sl.nil _ _, B1.out⟩
set_option maxRecDepth 100000 in
set_option maxHeartbeats 1000000 in
theorem dbound_any (h many : Int) (w : World) (hm0 : -9223372036854775808 ≤ many) (hm1 : many ≤ 9223372036854775807) :
    Calls Tryz.prog 24 #[.int .i64 h, .int .i64 many] w fun e w' => e = .returned (.tuple #[.int .u64 (M.dbV h many), .int .i64 (M.bdE h many)]) ∧ Below w.heap.size w w' := by
  unfold M.dbV
  cases hc : M.cntB h many with
  | false =>
    have hE : M.bdE h many = 1 := by unfold M.bdE; rw [hc]; rfl
    rw [hE]
    go_enter Tryz.func24, Tryz.ntmps24
    go_wp2_with (first | (go_at_call 23; refine (bound_any h _ _ hm0 hm1).mono ?_; rw [hE]; rintro e w1 ⟨rfl, hb1⟩))
    go_ret2
    exact ⟨rfl, hb1⟩
  | true =>
    have hE : M.bdE h many = 0 := by unfold M.bdE; rw [hc]; rfl
    rw [hE]
    obtain ⟨s1, s2, s3, s4, s5⟩ := M.cnt_of hc
    by_cases c3 : many = 0
    · rw [if_pos c3]
      subst c3
      go_enter Tryz.func24, Tryz.ntmps24
      go_wp2_with (first | (go_at_call 23; refine (bound_any h _ _ hm0 hm1).mono ?_; rw [hE]; rintro e w1 ⟨rfl, hb1⟩))
      go_ret2
      exact ⟨rfl, hb1⟩
    · rw [if_neg c3]
      have c4 : (many == 0) = false := by rw [beq_eq_false_iff_ne]; exact c3
      have hw1 : IntKind.u64.wrap many = many := M.wrapu_id (by omega) (by omega)
      have hw2 : IntKind.u64.wrap (2 * many) = 2 * many := M.wrapu_id (by omega) (by omega)
      have hw3 : IntKind.u64.wrap (2 * many - 1) = 2 * many - 1 := M.wrapu_id (by omega) (by omega)
      go_enter Tryz.func24, Tryz.ntmps24
      go_wp2_with (first | (go_at_call 23; refine (bound_any h _ _ hm0 hm1).mono ?_; rw [hE]; rintro e w1 ⟨rfl, hb1⟩))
      go_ret2
      exact ⟨rfl, hb1⟩
theorem M.live11a : M.dfL 3 [0, 1] = [(1, 4)] := by decide +kernel
theorem M.live11b : M.setE 3 [0, 1] = 0 := by decide +kernel
end Go.Proofs.YtmicgojojkkkhaaGreat
