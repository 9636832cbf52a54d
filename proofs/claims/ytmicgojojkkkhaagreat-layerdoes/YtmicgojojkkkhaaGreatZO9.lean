/-
  What the document's own Hang answers at every input. Conditions: the slice holds numbers that fit.
-/
import Derived.Test.YtmicgojojkkkhaaGreatZO7
namespace Go.Proofs.YtmicgojojkkkhaaGreat
open Go.RowKit
set_option maxRecDepth 100000 in
set_option maxHeartbeats 4000000 in
theorem rstHang_any (h : Int) (L : List Int) (v : Value) (w : World) (hu : Us w v L) :
    Calls Tryz.prog 48 #[.int .i64 h, v] w fun e w' => ∃ v', e = .returned (.tuple #[v', .int .i64 (M.setE h L)]) ∧ Us w' v' (M.thV h L) ∧ Below w.heap.size w w' := by
  obtain ⟨i0, hi, hz0, hz1, hz2⟩ := info_parts Tryz.infoU64
  obtain ⟨ao, cap, rfl, -⟩ := us_view hu
  unfold M.thV
  cases hs : M.setB h L with
  | false =>
    have e : M.setE h L = 1 := by unfold M.setE; rw [hs]; rfl
    rw [if_neg (by rw [e]; decide), e]
    have hm : (M.okB h 1 && M.setB h L) = false := by rw [M.may_one, hs]
    go_enter Tryz.func48, Tryz.ntmps48
    go_wp2_with (first | (go_at_call 77; refine (rmay9_any h _ _ _ _ hu (by omega) (by omega)).mono ?_; rw [hm]; rintro e w' ⟨rfl, hw⟩; subst w'))
    go_ret2
    exact ⟨_, rfl, Us.nil _, Below.refl _ _⟩
  | true =>
    have e : M.setE h L = 0 := by unfold M.setE; rw [hs]; rfl
    rw [if_pos e, e]
    have hm : (M.okB h 1 && M.setB h L) = true := by rw [M.may_one, hs]
    by_cases hn0 : L.length = 0
    · have hLn : L = [] := List.eq_nil_of_length_eq_zero hn0
      subst hLn
      rw [show (if ([] : List Int).length = 0 then ([1] : List Int) else (M.tree h []).flatMap (M.outk h [])) = [1] from rfl]
      go_enter Tryz.func48, Tryz.ntmps48
      go_wp2_with (first | (go_at_call 77; refine (rmay9_any h _ _ _ _ hu (by omega) (by omega)).mono ?_; rw [hm]; rintro e w' ⟨rfl, hw⟩; subst w'))
      go_ret2
      exact ⟨_, rfl, Us.one _ _ _ (by omega) (by omega), below_one (Below.refl _ _)⟩
    · rw [if_neg hn0]
      have hn1 : ((L.length : Int) == 0) = false := by rw [beq_eq_false_iff_ne]; omega
      have hn2 : ¬ (L.length : Int) = 0 := by omega
      obtain ⟨t1, t2, t3⟩ := M.tree_facts hs
      have s3 := (M.set_of hs).2.2.1
      have HP := hidq (fun k (hk : k < (M.tree h L).length) => (M.inT_iff.1 ((t2 _).1 (show (M.tree h L)[k]?.getD 0 ∈ M.tree h L by rw [List.getElem?_eq_getElem hk]; exact List.getElem_mem hk))).1)
      have hN : (M.tree h L).length ≤ 40000 := by omega
      obtain ⟨F, hF⟩ : ∃ F : Nat → List Int, ∀ k, F k = ((M.tree h L).take k).flatMap (M.outk h L) := ⟨_, fun _ => rfl⟩
      have HF := hidq (fun k (hk : k < (M.tree h L).length) => show F (k + 1) = F k ++ M.outk h L ((M.tree h L)[k]?.getD 0) by
        rw [hF, hF, take_getD k hk, List.flatMap_append]
        simp)
      have HFl := hidq (fun k => show (F k).length ≤ 80000 by
        have h1 := M.flat_len (M.outk_len h L) ((M.tree h L).take k)
        rw [hF]
        rw [List.length_take] at h1; omega)
      have HF0 := hidq (show F 0 = [] by rw [hF]; rfl)
      have HD := hidq (show F (M.tree h L).length = (M.tree h L).flatMap (M.outk h L) by rw [hF, List.take_length])
      clear t1 t2 t3 hn0 hF
      go_enter Tryz.func48, Tryz.ntmps48
      go_wp2_with (first | (go_at_call 77; refine (rmay9_any h _ _ _ _ hu (by omega) (by omega)).mono ?_; rw [hm]; rintro e w' ⟨rfl, hw⟩; subst w') | (go_at_call 78; refine (rtree_any h L _ _ hs hu).mono ?_; rintro e w1 ⟨v1, rfl, u1, hb1⟩; obtain ⟨a1, c1, rfl, hm1, hv1⟩ := us_view u1; have U1 := hidq u1; have B1 := hidq hb1; have V1 := hidq hv1; clear u1 hb1 hv1))
      generalize hN' : (M.tree h L).length = N at *
      go_loopw [25, 7] (fun i x wr => ∃ (k : Nat), k ≤ N ∧ i = .int .i64 k ∧ Qu wr w1.heap.size 23 x (F k) ∧ Below w1.heap.size w1 wr) (fun i _ _ => N - (intOf i).toNat)
      case atStart => exact ⟨0, by omega, rfl, by rw [HF0.out]; exact Qu.nil _ _ _ _, Below.refl _ _⟩
      case round =>
        obtain ⟨k, hk, rfl, hq, hb⟩ := hrel
        by_cases hkn : k < N
        · obtain ⟨ax, cx, rfl, -⟩ := hq.form
          have QX := hidq hq
          have BX := hidq hb
          have UX := U1.out.below hb
          clear hq hb
          have hki : (k : Int) < N := by omega
          obtain ⟨b1, o1, rfl, -⟩ := V1.out (by omega)
          have yc := UX.cellAt k (by omega)
          have hyk := HP.out k hkn
          have HX := hidq (HF.out k hkn)
          have hFl := HFl.out k
          generalize (M.tree h L)[k]?.getD 0 = y at *
          have hy1 := M.ok_lt hyk
          have hy0 := (M.ok_of hyk).2.2.1
          have HT := hidq (M.outD_two (L := L) hyk)
          have hw2 : IntKind.u64.wrap (2 * y) = 2 * y := M.wrapu_id (by omega) (by omega)
          obtain ⟨G, hG⟩ : ∃ G : Nat → List Int, ∀ q, G q = F k ++ M.outD h L y q := ⟨_, fun _ => rfl⟩
          have HG0 := hidq (show G 0 = F k by rw [hG, M.outD_zero, List.append_nil])
          have HG2 := hidq (show G 2 = F (k + 1) by rw [hG, HT.out, HX.out])
          have HGl := hidq (fun (q : Nat) => show q ≤ 2 → (G q).length ≤ 80002 from fun hq => by
            have := M.outD_len h L y q
            have := HFl.out k
            rw [hG, List.length_append]; omega)
          have HGY := hidq (fun (q : Nat) hc => show G (q + 1) = G q ++ [2 * y + q] by rw [hG, hG, M.outD_yes hc, List.append_assoc])
          have HGN := hidq (fun (q : Nat) hc => show G (q + 1) = G q by rw [hG, hG, M.outD_no hc])
          clear UX hyk hG HX HT hFl
          go_wp2
          go_loopw [29, 7] (fun i x wr => ∃ (q : Nat), q ≤ 2 ∧ i = .int .u64 q ∧ Qu wr w1.heap.size 23 x (G q) ∧ Below w1.heap.size w1 wr) (fun i _ _ => 2 - (intOf i).toNat)
          case atStart => exact ⟨0, by omega, rfl, by rw [HG0.out]; exact QX.out, BX.out⟩
          case round =>
            obtain ⟨q, hq2, rfl, hq, hb⟩ := hrel
            obtain ⟨az, cz, rfl, -⟩ := hq.form
            have QO := hidq hq
            have BB := hidq hb
            have UB := hidq (U1.out.below hb)
            have hol := HGl.out q hq2
            clear hq hb
            by_cases hlt : q < 2
            · have hqi : (q : Int) < 2 := by omega
              have hwc : IntKind.u64.wrap (2 * y + q) = 2 * y + q := M.wrapu_id (by omega) (by omega)
              have hwq : IntKind.u64.wrap ((q : Int) + 1) = (q : Int) + 1 := M.wrapu_id (by omega) (by omega)
              have hc0 : 0 ≤ 2 * y + q := by omega
              have hc1 : 2 * y + q ≤ 18446744073709551615 := by omega
              have HY := hidq (HGY.out q)
              have HZ := hidq (HGN.out q)
              obtain ⟨c, hc⟩ : ∃ c, 2 * y + (q : Int) = c := ⟨_, rfl⟩
              rw [hc] at hwc hc0 hc1 HY HZ
              cases hok : M.okB h c with
              | false =>
                have HR := hidq (HZ.out (by rw [hok]; rfl))
                clear HY HZ
                go_wp2_with (first | (go_at_call 47; refine (may_any h c _ hc0 hc1).mono ?_; rw [hok]; rintro e w' ⟨rfl, hw⟩; subst w'))
                go_roundw
                case rel => exact ⟨q + 1, by omega, by go_num, by rw [HR.out]; exact QO.out, BB.out⟩
                case measure => simp [intOf]; omega
              | true =>
                cases hin : M.inT h L c with
                | true =>
                  have HR := hidq (HZ.out (by rw [hok, hin]; rfl))
                  clear HY HZ
                  go_wp2_with (first | (go_at_call 47; refine (may_any h c _ hc0 hc1).mono ?_; rw [hok]; rintro e w' ⟨rfl, hw⟩; subst w') | (go_at_call 79; refine (rleafin_any _ _ _ _ UB.out).mono ?_; rw [M.has_tree hs, hin]; rintro e w' ⟨rfl, hw⟩; subst w'))
                  go_roundw
                  case rel => exact ⟨q + 1, by omega, by go_num, by rw [HR.out]; exact QO.out, BB.out⟩
                  case measure => simp [intOf]; omega
                | false =>
                  have HR := hidq (HY.out (by rw [hok, hin]; rfl))
                  clear HY HZ
                  go_wp2_with (first | (go_at_call 47; refine (may_any h c _ hc0 hc1).mono ?_; rw [hok]; rintro e w' ⟨rfl, hw⟩; subst w') | (go_at_call 79; refine (rleafin_any _ _ _ _ UB.out).mono ?_; rw [M.has_tree hs, hin]; rintro e w' ⟨rfl, hw⟩; subst w') | (at_builtin; refine wpList_append_qu rfl _ _ 22 rfl w1.heap.size 23 i0 Tryz.underlying22 hi hz0 hz1 hz2 _ _ rfl (QO.out.alloc (.cells #[.int .u64 c] 23)) _ [c] rfl (Us.one _ _ _ hc0 hc1) (by simp only [List.length_cons, List.length_nil]; omega) (by have := BB.out.size; simp; omega) ?_; intro v3 w3 q3 g3 n3; obtain ⟨ao3, cap3, rfl, -⟩ := q3.form; simp only [List.length_append, List.length_cons, List.length_nil, Nat.zero_add] at q3; have Q3 := hidq q3; have B3 := hidq (below_qu (below_one (o := (.cells #[.int .u64 c] 23)) BB.out) g3 (QO.out.alloc (.cells #[.int .u64 c] 23)) (Nat.le_refl _) (by have := BB.out.size; simp; omega)); clear q3 g3 n3))
                  go_roundw
                  case rel => exact ⟨q + 1, by omega, by go_num, by rw [HR.out]; exact Q3.out, B3.out⟩
                  case measure => simp [intOf]; omega
            · obtain rfl : q = 2 := by omega
              have hqi : ¬ ((2 : Nat) : Int) < 2 := by omega
              go_wp2
              go_roundw
              case rel => exact ⟨k + 1, by omega, by go_num, by rw [← HG2.out]; exact QO.out, BB.out⟩
              case measure => simp [intOf]; omega
        · obtain ⟨ax, cx, rfl, -⟩ := hq.form
          have QX := hidq hq
          have BX := hidq hb
          clear hq hb
          obtain rfl : k = N := by omega
          have hki : ¬ (k : Int) < k := by omega
          go_wp2
          go_ret2
          exact ⟨_, rfl, by rw [← HD.out]; exact QX.out.us, below_trans B1.out BX.out⟩
end Go.Proofs.YtmicgojojkkkhaaGreat
