/-
  What the document's own Is, Many, Forks and Hang answer at every input. Conditions: the slice holds numbers that fit.
-/
import Derived.Test.YthmiieiajfghnaaZG1
import Derived.Test.YthmiieiajfghnaaZO7
import Derived.Test.YthmiieiajfghnaaZR1
namespace Go.Proofs.Ythmiieiajfghnaa
open Go.RowKit
namespace M
theorem has_tree {h : Int} {L : List Int} (hs : setB h L = true) (x : Int) : has (tree h L) x = inT h L x := by
  rw [Bool.eq_iff_iff, has_iff, (tree_facts hs).2.1]
theorem isV_yes {h : Int} {L : List Int} {n : Int} (hs : setB h L = true) (hk : okB h n = true) : belE h L n = 0 ∧ isV h L n = inT h L n := by
  have e := belE_iff.2 ⟨hs, hk⟩
  refine ⟨e, ?_⟩
  unfold isV
  rw [belV_yes e, inT_bel hk]
theorem isV_no {h : Int} {L : List Int} {n : Int} (hn : (okB h n && setB h L) = false) : belE h L n = 1 ∧ isV h L n = false := by
  have e : belE h L n ≠ 0 := fun e => by
    obtain ⟨h1, h2⟩ := belE_iff.1 e
    rw [h1, h2] at hn; cases hn
  obtain ⟨h1, h2⟩ := belV_no e
  refine ⟨h2, ?_⟩
  unfold isV
  rw [h1]; rfl
theorem may_one (h : Int) (L : List Int) : (okB h 1 && setB h L) = setB h L := by
  rw [ok_one]
  cases hs : setB h L
  · simp
  · have := set_of hs
    rw [ht_mk this.1 this.2.1]; rfl
theorem frk_eq {h : Int} {L : List Int} {n : Int} : frk h L n = (inT h L (2 * n) && inT h L (2 * n + 1)) := by
  unfold frk kid
  by_cases hl : n < p2 h
  · rw [if_pos hl]
    cases h1 : inT h L (2 * n) <;> cases h2 : inT h L (2 * n + 1) <;> simp [h1, h2]
  · rw [if_neg hl]
    cases h1 : inT h L (2 * n)
    · rfl
    · have := (ok_of (inT_iff.1 h1).1).2.2.2
      omega
def outD (h : Int) (L : List Int) (n : Int) (k : Nat) : List Int := (twoK n k).filter (fun c => okB h c && !inT h L c)
theorem outD_zero (h : Int) (L : List Int) (n : Int) : outD h L n 0 = [] := rfl
theorem outD_yes {h : Int} {L : List Int} {n : Int} {k : Nat} (hc : (okB h (2 * n + k) && !inT h L (2 * n + k)) = true) : outD h L n (k + 1) = outD h L n k ++ [2 * n + k] := by
  unfold outD
  rw [twoK_succ, List.filter_append]; simp only [List.filter_cons, List.filter_nil]; rw [if_pos hc]
theorem outD_no {h : Int} {L : List Int} {n : Int} {k : Nat} (hc : (okB h (2 * n + k) && !inT h L (2 * n + k)) = false) : outD h L n (k + 1) = outD h L n k := by
  unfold outD
  rw [twoK_succ, List.filter_append]; simp only [List.filter_cons, List.filter_nil]; rw [if_neg (by rw [hc]; decide), List.append_nil]
theorem outD_two {h : Int} {L : List Int} {n : Int} (hk : okB h n = true) : outD h L n 2 = outk h L n := by
  have e : twoK n 2 = [2 * n, 2 * n + 1] := by simp [twoK, List.range_succ]
  unfold outD outk
  rw [e]
  have kk := ok_of hk
  by_cases hl : n < p2 h
  · rw [if_pos hl]
    have h1 : okB h (2 * n) = true := ok_mk kk.1 kk.2.1 (by omega) (by omega)
    have h2 : okB h (2 * n + 1) = true := ok_mk kk.1 kk.2.1 (by omega) (by omega)
    refine List.filter_congr fun x hx => ?_
    simp at hx
    rcases hx with rfl | rfl
    · rw [h1]; rfl
    · rw [h2]; rfl
  · rw [if_neg hl]
    refine List.filter_eq_nil_iff.2 fun x hx => ?_
    simp at hx
    have : okB h x = false := by
      rw [Bool.eq_false_iff]
      intro ho
      have := (ok_of ho).2.2.2
      omega
    rw [this]; simp
theorem outD_len (h : Int) (L : List Int) (n : Int) (k : Nat) : (outD h L n k).length ≤ k := by
  have e : (twoK n k).length = k := by simp [twoK]
  have h1 : (outD h L n k).length ≤ _ := List.length_filter_le _ _
  omega
theorem flat_len {f : Int → List Int} (hf : ∀ n, (f n).length ≤ 2) : ∀ X : List Int, (X.flatMap f).length ≤ 2 * X.length
  | [] => by simp
  | x :: t => by
    have := flat_len hf t
    have := hf x
    rw [List.flatMap_cons, List.length_append, List.length_cons]; omega
theorem outk_len (h : Int) (L : List Int) (n : Int) : (outk h L n).length ≤ 2 := by
  unfold outk
  split
  · exact List.length_filter_le _ _
  · simp
end M
set_option maxRecDepth 100000 in
set_option maxHeartbeats 1000000 in
theorem rmay9_any (h : Int) (L : List Int) (v : Value) (n : Int) (w : World) (hu : Us w v L) (h0 : 0 ≤ n) (h1 : n ≤ 18446744073709551615) :
    Calls Try.prog 29 #[.int .i64 h, v, .int .u64 n] w fun e w' => e = .returned (.bool (M.okB h n && M.setB h L)) ∧ w' = w := by
  cases hk : M.okB h n with
  | false =>
    rw [Bool.false_and]
    go_enter Try.func29, Try.ntmps29
    go_wp2_with (first | (go_at_call 42; refine (may_any h n _ h0 h1).mono ?_; rw [hk]; rintro e w' ⟨rfl, hw⟩; subst w'))
    go_ret
    exact ⟨rfl, rfl⟩
  | true =>
    rw [Bool.true_and]
    cases hb : M.setB h L with
    | false =>
      have hs : M.setE h L = 1 := by unfold M.setE; rw [hb]; rfl
      go_enter Try.func29, Try.ntmps29
      go_wp2_with (first | (go_at_call 42; refine (may_any h n _ h0 h1).mono ?_; rw [hk]; rintro e w' ⟨rfl, hw⟩; subst w') | (go_at_call 51; refine (rset_any h L _ _ hu).mono ?_; rw [hs]; rintro e w' ⟨rfl, hw⟩; subst w'))
      go_ret
      exact ⟨rfl, rfl⟩
    | true =>
      have hs : M.setE h L = 0 := by unfold M.setE; rw [hb]; rfl
      go_enter Try.func29, Try.ntmps29
      go_wp2_with (first | (go_at_call 42; refine (may_any h n _ h0 h1).mono ?_; rw [hk]; rintro e w' ⟨rfl, hw⟩; subst w') | (go_at_call 51; refine (rset_any h L _ _ hu).mono ?_; rw [hs]; rintro e w' ⟨rfl, hw⟩; subst w'))
      go_ret
      exact ⟨rfl, rfl⟩
set_option maxRecDepth 100000 in
set_option maxHeartbeats 1000000 in
theorem rstIs_any (h : Int) (L : List Int) (v : Value) (n : Int) (w : World) (hu : Us w v L) (h0 : 0 ≤ n) (h1 : n ≤ 18446744073709551615) :
    Calls Try.prog 11 #[.int .i64 h, v, .int .u64 n] w fun e w' => e = .returned (.tuple #[.bool (M.isV h L n), .int .i64 (M.belE h L n)]) ∧ Below w.heap.size w w' := by
  cases hm : (M.okB h n && M.setB h L) with
  | false =>
    obtain ⟨e1, e2⟩ := M.isV_no hm
    rw [e1, e2]
    clear e1 e2
    go_enter Try.func11, Try.ntmps11
    go_wp2_with (first | (go_at_call 29; refine (rmay9_any h L _ _ _ hu (by omega) (by omega)).mono ?_; rw [hm]; rintro e w' ⟨rfl, hw⟩; subst w'))
    go_ret2
    exact ⟨rfl, Below.refl _ _⟩
  | true =>
    obtain ⟨hk, hs⟩ := (Bool.and_eq_true _ _ ▸ hm : _ ∧ _)
    obtain ⟨e1, e2⟩ := M.isV_yes hs hk
    rw [e1, e2]
    clear e1 e2 hk
    go_enter Try.func11, Try.ntmps11
    go_wp2_with (first | (go_at_call 29; refine (rmay9_any h L _ _ _ hu (by omega) (by omega)).mono ?_; rw [hm]; rintro e w' ⟨rfl, hw⟩; subst w') | (go_at_call 30; refine (rtree_any h L _ _ hs hu).mono ?_; rintro e w1 ⟨v1, rfl, u1, hb1⟩; obtain ⟨a1, c1, rfl, hm1, hv1⟩ := us_view u1; have U1 := hidq u1; have B1 := hidq hb1; have V1 := hidq hv1; clear u1 hb1 hv1) | (go_at_call 24; refine (rin_any _ _ _ _ U1.out).mono ?_; rw [M.has_tree hs]; rintro e w' ⟨rfl, hw⟩; subst w'))
    go_ret2
    exact ⟨rfl, B1.out⟩
set_option maxRecDepth 100000 in
set_option maxHeartbeats 1000000 in
theorem rstMany_any (h : Int) (L : List Int) (v : Value) (w : World) (hu : Us w v L) :
    Calls Try.prog 13 #[.int .i64 h, v] w fun e w' => e = .returned (.tuple #[.int .i64 (M.tmV h L), .int .i64 (M.setE h L)]) ∧ Below w.heap.size w w' := by
  unfold M.tmV
  cases hs : M.setB h L with
  | false =>
    have e : M.setE h L = 1 := by unfold M.setE; rw [hs]; rfl
    rw [if_neg (by rw [e]; decide), e]
    have hm : (M.okB h 1 && M.setB h L) = false := by rw [M.may_one, hs]
    go_enter Try.func13, Try.ntmps13
    go_wp2_with (first | (go_at_call 29; refine (rmay9_any h L _ _ _ hu (by omega) (by omega)).mono ?_; rw [hm]; rintro e w' ⟨rfl, hw⟩; subst w'))
    go_ret2
    exact ⟨rfl, Below.refl _ _⟩
  | true =>
    have e : M.setE h L = 0 := by unfold M.setE; rw [hs]; rfl
    rw [if_pos e, e]
    have hm : (M.okB h 1 && M.setB h L) = true := by rw [M.may_one, hs]
    go_enter Try.func13, Try.ntmps13
    go_wp2_with (first | (go_at_call 29; refine (rmay9_any h L _ _ _ hu (by omega) (by omega)).mono ?_; rw [hm]; rintro e w' ⟨rfl, hw⟩; subst w') | (go_at_call 30; refine (rtree_any h L _ _ hs hu).mono ?_; rintro e w1 ⟨v1, rfl, u1, hb1⟩; obtain ⟨a1, c1, rfl, hm1, hv1⟩ := us_view u1; have U1 := hidq u1; have B1 := hidq hb1; have V1 := hidq hv1; clear u1 hb1 hv1))
    go_ret2
    exact ⟨rfl, B1.out⟩
set_option maxRecDepth 100000 in
set_option maxHeartbeats 4000000 in
theorem rstForks_any (h : Int) (L : List Int) (v : Value) (w : World) (hu : Us w v L) :
    Calls Try.prog 17 #[.int .i64 h, v] w fun e w' => ∃ v', e = .returned (.tuple #[v', .int .i64 (M.setE h L)]) ∧ Us w' v' (M.tfV h L) ∧ Below w.heap.size w w' := by
  obtain ⟨i0, hi, hz0, hz1, hz2⟩ := info_parts Try.infoU64
  unfold M.tfV
  cases hs : M.setB h L with
  | false =>
    have e : M.setE h L = 1 := by unfold M.setE; rw [hs]; rfl
    rw [if_neg (by rw [e]; decide), e]
    have hm : (M.okB h 1 && M.setB h L) = false := by rw [M.may_one, hs]
    go_enter Try.func17, Try.ntmps17
    go_wp2_with (first | (go_at_call 29; refine (rmay9_any h L _ _ _ hu (by omega) (by omega)).mono ?_; rw [hm]; rintro e w' ⟨rfl, hw⟩; subst w'))
    go_ret2
    exact ⟨_, rfl, Us.nil _, Below.refl _ _⟩
  | true =>
    have e : M.setE h L = 0 := by unfold M.setE; rw [hs]; rfl
    rw [if_pos e, e]
    have hm : (M.okB h 1 && M.setB h L) = true := by rw [M.may_one, hs]
    obtain ⟨t1, t2, t3⟩ := M.tree_facts hs
    have s3 := (M.set_of hs).2.2.1
    have HB := hidq (fun k (hk : k < (M.tree h L).length) => M.ok_lt (M.inT_iff.1 ((t2 _).1 (show (M.tree h L)[k]?.getD 0 ∈ M.tree h L by rw [List.getElem?_eq_getElem hk]; exact List.getElem_mem hk))).1)
    have HP := hidq (fun k (hk : k < (M.tree h L).length) => (M.ok_of (M.inT_iff.1 ((t2 _).1 (show (M.tree h L)[k]?.getD 0 ∈ M.tree h L by rw [List.getElem?_eq_getElem hk]; exact List.getElem_mem hk))).1).2.2.1)
    have hN : (M.tree h L).length ≤ 40000 := by omega
    have HF := hidq (fun k (hk : k < (M.tree h L).length) => show ((M.tree h L).take (k + 1)).filter (M.frk h L) = ((M.tree h L).take k).filter (M.frk h L) ++ (if M.frk h L ((M.tree h L)[k]?.getD 0) then [(M.tree h L)[k]?.getD 0] else []) by
      rw [take_getD k hk, List.filter_append]
      congr 1
      simp [List.filter_cons])
    have HFl := hidq (fun k => show (((M.tree h L).take k).filter (M.frk h L)).length ≤ 40000 by
      have h1 : (((M.tree h L).take k).filter (M.frk h L)).length ≤ _ := List.length_filter_le _ _
      rw [List.length_take] at h1; omega)
    have HD := hidq (show ((M.tree h L).take (M.tree h L).length).filter (M.frk h L) = (M.tree h L).filter (M.frk h L) by rw [List.take_length])
    clear t1 t2 t3
    go_enter Try.func17, Try.ntmps17
    go_wp2_with (first | (go_at_call 29; refine (rmay9_any h L _ _ _ hu (by omega) (by omega)).mono ?_; rw [hm]; rintro e w' ⟨rfl, hw⟩; subst w') | (go_at_call 30; refine (rtree_any h L _ _ hs hu).mono ?_; rintro e w1 ⟨v1, rfl, u1, hb1⟩; obtain ⟨a1, c1, rfl, hm1, hv1⟩ := us_view u1; have U1 := hidq u1; have B1 := hidq hb1; have V1 := hidq hv1; clear u1 hb1 hv1))
    generalize hN' : (M.tree h L).length = N at *
    go_loopw [19, 7] (fun i x wr => ∃ (k : Nat), k ≤ N ∧ i = .int .i64 k ∧ Qu wr w1.heap.size 23 x (((M.tree h L).take k).filter (M.frk h L)) ∧ Below w1.heap.size w1 wr) (fun i _ _ => N - (intOf i).toNat)
    case atStart => exact ⟨0, by omega, rfl, by rw [List.take_zero, List.filter_nil]; exact Qu.nil _ _ _ _, Below.refl _ _⟩
    case round =>
      obtain ⟨k, hk, rfl, hq, hb⟩ := hrel
      obtain ⟨ax, cx, rfl, -⟩ := hq.form
      have QO := hidq hq
      have BB := hidq hb
      have UB := hidq (U1.out.below hb)
      clear hq hb
      by_cases hkn : k < N
      · have hki : (k : Int) < N := by omega
        obtain ⟨b1, o1, rfl, -⟩ := V1.out (by omega)
        have yc := UB.out.cellAt k (by omega)
        have y1 := HB.out k hkn
        have y0 := HP.out k hkn
        have HX := hidq (HF.out k hkn)
        have hFl := HFl.out k
        generalize (M.tree h L)[k]?.getD 0 = y at *
        have fe := M.frk_eq (h := h) (L := L) (n := y)
        have w1' : IntKind.u64.wrap (2 * y) = 2 * y := M.wrapu_id (by omega) (by omega)
        have w2' : IntKind.u64.wrap (2 * y + 1) = 2 * y + 1 := M.wrapu_id (by omega) (by omega)
        have T1 := hidq trivial
        cases hi1 : M.inT h L (2 * y) with
        | false =>
          rw [hi1, Bool.false_and] at fe
          rw [fe] at HX
          clear fe
          go_wp2_with (first | (go_at_call 24; clear T1; refine (rin_any _ _ _ _ UB.out).mono ?_; rw [M.has_tree hs, hi1]; rintro e w' ⟨rfl, hw⟩; subst w'))
          go_roundw
          case rel => exact ⟨k + 1, by omega, by go_num, by rw [HX.out]; simpa using QO.out, BB.out⟩
          case measure => simp [intOf]; omega
        | true =>
          cases hi2 : M.inT h L (2 * y + 1) with
          | false =>
            rw [hi1, hi2] at fe
            rw [fe] at HX
            clear fe
            go_wp2_with (first | (go_at_call 24; clear T1; refine (rin_any _ _ _ _ UB.out).mono ?_; rw [M.has_tree hs, hi1]; rintro e w' ⟨rfl, hw⟩; subst w') | (go_at_call 24; refine (rin_any _ _ _ _ UB.out).mono ?_; rw [M.has_tree hs, hi2]; rintro e w' ⟨rfl, hw⟩; subst w'))
            go_roundw
            case rel => exact ⟨k + 1, by omega, by go_num, by rw [HX.out]; simpa using QO.out, BB.out⟩
            case measure => simp [intOf]; omega
          | true =>
            rw [hi1, hi2] at fe
            rw [fe] at HX
            clear fe
            go_wp2_with (first | (go_at_call 24; clear T1; refine (rin_any _ _ _ _ UB.out).mono ?_; rw [M.has_tree hs, hi1]; rintro e w' ⟨rfl, hw⟩; subst w') | (go_at_call 24; refine (rin_any _ _ _ _ UB.out).mono ?_; rw [M.has_tree hs, hi2]; rintro e w' ⟨rfl, hw⟩; subst w') | (at_builtin; refine wpList_append_qu rfl _ _ 22 rfl w1.heap.size 23 i0 Try.underlying22 hi hz0 hz1 hz2 _ _ rfl (QO.out.alloc (.cells #[.int .u64 y] 23)) _ [y] rfl (Us.one _ _ _ (by omega) (by omega)) (by simp only [List.length_cons, List.length_nil]; omega) (by have := BB.out.size; simp; omega) ?_; intro v3 w3 q3 g3 n3; obtain ⟨ao3, cap3, rfl, -⟩ := q3.form; simp only [List.length_append, List.length_cons, List.length_nil, Nat.zero_add] at q3; have Q3 := hidq q3; have B3 := hidq (below_qu (below_one (o := (.cells #[.int .u64 y] 23)) BB.out) g3 (QO.out.alloc (.cells #[.int .u64 y] 23)) (Nat.le_refl _) (by have := BB.out.size; simp; omega)); clear q3 g3 n3))
            go_roundw
            case rel => exact ⟨k + 1, by omega, by go_num, by rw [HX.out]; exact Q3.out, B3.out⟩
            case measure => simp [intOf]; omega
      · obtain rfl : k = N := by omega
        have hki : ¬ (k : Int) < k := by omega
        go_wp2
        go_ret2
        exact ⟨_, rfl, by rw [← HD.out]; exact QO.out.us, below_trans B1.out BB.out⟩
end Go.Proofs.Ythmiieiajfghnaa
