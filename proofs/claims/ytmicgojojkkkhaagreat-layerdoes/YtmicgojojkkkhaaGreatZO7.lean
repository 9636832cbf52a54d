/-
  What the document's own Tree answers: all nodes above leaves of a set, rising. Conditions: the list is a set.
-/
import Derived.Test.YtmicgojojkkkhaaGreatZG1
import Derived.Test.YtmicgojojkkkhaaGreatZO6
import Derived.Test.YtmicgojojkkkhaaGreatZR1
namespace Go.Proofs.YtmicgojojkkkhaaGreat
open Go.RowKit
namespace M
theorem psh_len : ∀ (X acc : List Int), (X.foldl psh acc).length ≤ acc.length + X.length
  | [], _ => by simp
  | x :: t, acc => by
    have h1 := psh_len t (psh acc x)
    have h2 : (psh acc x).length ≤ acc.length + 1 := by
      unfold psh
      split
      · omega
      · simp
    rw [List.foldl_cons, List.length_cons]; omega
theorem psh_none (x : Int) : psh [] x = [x] := rfl
theorem psh_same {C : List Int} {x : Int} (h0 : C.length ≠ 0) (h : C[C.length - 1]?.getD 0 = x) : psh C x = C := by
  unfold psh
  rw [List.getLast?_eq_getElem?, if_pos]
  rw [List.getElem?_eq_getElem (by omega)] at h ⊢
  rw [← h]; rfl
theorem psh_diff {C : List Int} {x : Int} (h : C[C.length - 1]?.getD 0 ≠ x) : psh C x = C ++ [x] := by
  unfold psh
  rw [List.getLast?_eq_getElem?, if_neg]
  intro e
  rw [e] at h
  exact h rfl
/-- what is gathered behind d levels, and k leaves -/
def trk (h : Int) (L : List Int) (d k : Nat) : List Int := ((L.take k).map (anc h d)).foldl psh (tre h L d)
theorem trk_zero (h : Int) (L : List Int) (d : Nat) : trk h L d 0 = tre h L d := rfl
theorem trk_succ {h : Int} {L : List Int} {d k : Nat} (hk : k < L.length) : trk h L d (k + 1) = psh (trk h L d k) (anc h d (L[k]?.getD 0)) := by
  unfold trk
  rw [take_getD k hk, List.map_append, List.foldl_append]; rfl
theorem trk_all {h : Int} {L : List Int} (hs : setB h L = true) {d : Nat} (hd : (d : Int) ≤ h) : trk h L d L.length = tre h L (d + 1) := by
  unfold trk
  rw [List.take_length]; exact tre_next hs d hd
theorem trk_len {h : Int} {L : List Int} (hs : setB h L = true) {d : Nat} (hd : (d : Int) ≤ h) (k : Nat) : (trk h L d k).length ≤ 40000 := by
  have h1 := psh_len ((L.take k).map (anc h d)) (tre h L d)
  have h2 := (tre_facts hs d (by omega)).2.2
  have h3 := set_of hs
  have h4 : d * L.length ≤ 33 * 1024 := Nat.mul_le_mul (by omega) h3.2.2.1
  have h5 : ((L.take k).map (anc h d)).length ≤ L.length := by rw [List.length_map, List.length_take]; omega
  unfold trk
  omega
end M
set_option maxRecDepth 100000 in
set_option maxHeartbeats 4000000 in
theorem rtree_any (h : Int) (L : List Int) (v : Value) (w : World) (hs : M.setB h L = true) (hu : Us w v L) :
    Calls Tryz.prog 78 #[.int .i64 h, v] w fun e w' => ∃ v', e = .returned v' ∧ Us w' v' (M.tree h L) ∧ Below w.heap.size w w' := by
  obtain ⟨i0, hi, hz0, hz1, hz2⟩ := info_parts Tryz.infoU64
  obtain ⟨ao, cap, rfl, hmx, hao⟩ := us_view hu
  obtain ⟨s1, s2, s3, s4, s5, s6⟩ := M.set_of hs
  obtain ⟨m, rfl⟩ := Int.eq_ofNat_of_zero_le (show 0 ≤ h by omega)
  have hp32 := M.p2_32 s2
  have hpp := M.p2_pos (m : Int)
  have HS := hidq hs
  have HU := hidq hu
  have HA := hidq hao
  have HT := hidq (show M.tree m L = M.tre m L (m + 1) from by unfold M.tree; rw [show ((m : Int)).toNat = m from rfl])
  have H6 := hidq (fun k hk => getD_mem (fun x hx => s6 x hx) k hk)
  rw [HT.out]
  clear hs hu hao s4 s5 s6
  generalize hn : L.length = n at *
  have HN := hidq hn
  go_enter Tryz.func78, Tryz.ntmps78
  go_wp2
  go_loopw [14, 5] (fun i x wr => ∃ (d : Nat), d ≤ m + 1 ∧ i = .int .i64 d ∧ Qu wr w.heap.size 23 x (M.tre m L d) ∧ Below w.heap.size w wr) (fun i _ _ => m + 1 - (intOf i).toNat)
  case atStart => exact ⟨0, by omega, rfl, Qu.nil _ _ _ _, Below.refl _ _⟩
  case round =>
    obtain ⟨d, hd, rfl, hq, hb⟩ := hrel
    obtain ⟨ax, cx, rfl, -⟩ := hq.form
    have QX := hidq hq
    have BX := hidq hb
    clear hq hb
    by_cases hdm : d < m + 1
    · have hdi : (d : Int) < (m : Int) + 1 := by omega
      have HD := hidq (show (d : Int) ≤ m by omega)
      go_wp2
      go_loopw [19, 5] (fun i x wr => ∃ (k : Nat), k ≤ n ∧ i = .int .i64 k ∧ Qu wr w.heap.size 23 x (M.trk m L d k) ∧ Below w.heap.size w wr) (fun i _ _ => n - (intOf i).toNat)
      case atStart => exact ⟨0, by omega, rfl, QX.out, BX.out⟩
      case round =>
        obtain ⟨k, hk, rfl, hq, hb⟩ := hrel
        obtain ⟨ay, cy, rfl, -, hay⟩ := hq.form
        have QO := hidq hq
        have BB := hidq hb
        clear hq hb
        by_cases hkn : k < n
        · have hki : (k : Int) < n := by omega
          obtain ⟨bl, ol, rfl, -⟩ := HA.out (by omega)
          have yc := (HU.out.below BB.out).cellAt k (by omega)
          obtain ⟨gy0, gy1⟩ := H6.out k (by omega)
          have HX := hidq (M.trk_succ (h := (m : Int)) (d := d) (L := L) (k := k) (by omega))
          have hCl := M.trk_len HS.out HD.out k
          generalize hy : L[k]?.getD 0 = y at *
          generalize hC : M.trk m L d k = C at *
          clear hy hC
          have ly2 := M.leafE_yes s1 s2 gy1
          obtain ⟨ly1, oy, dy, -⟩ := M.leaf_facts gy0 ly2
          have hy0 : 0 ≤ y := gy0
          have hy1 : y ≤ 18446744073709551615 := by omega
          have hc0 : 1 ≤ M.p2 m + y := by omega
          have hc1 : M.p2 m + y ≤ 18446744073709551615 := by omega
          have hcd : M.dep (M.p2 m + y) = m := dy
          have hx : (M.chainL (M.p2 m + y))[d]?.getD 0 = M.anc m d y := by
            rw [M.chainL_at _ _ (by rw [dy]; omega)]; rfl
          have hxo := M.ok_lt (M.anc_facts s1 s2 (show (0:Int) ≤ d by omega) HD.out gy0 gy1).1
          have hxp := (M.ok_of (M.anc_facts s1 s2 (show (0:Int) ≤ d by omega) HD.out gy0 gy1).1).2.2.1
          have hdm' : (d : Int) < ((m + 1 : Nat) : Int) := by omega
          generalize hxx : M.anc m d y = x at *
          have hx0 : 0 ≤ x := by omega
          have hx1 : x ≤ 18446744073709551615 := by omega
          clear hxx oy dy
          by_cases hC0 : C.length = 0
          · have hCn : C = [] := List.eq_nil_of_length_eq_zero hC0
            subst hCn
            have HCL := hidq (fun W (_ : Qu W w.heap.size 23 (.slice ay ([] : List Int).length cy) []) => True.intro)
            rw [M.psh_none] at HX
            clear hay
            go_wp2_with (first | (go_at_call 34; refine (rleaf_any _ y _ hy0 hy1).mono ?_; rw [ly1, ly2]; rintro e w' ⟨rfl, hw⟩; subst w') | (go_at_call 35; refine (chain_any m _ _ hc0 hc1 hcd).mono ?_; rintro e w2 ⟨g2, cap2, rfl, ho2, hb2⟩; have x2 := own_cell ho2 d (by omega); rw [hx] at x2; have Q2 := hidq (QO.out.below hb2); have q2c := HCL.out _ Q2.out; have B2 := hidq (below_trans BB.out hb2); clear ho2 hb2) | (at_builtin; refine wpList_append_qu rfl _ _ 22 rfl w.heap.size 23 i0 Tryz.underlying22 hi hz0 hz1 hz2 _ _ rfl (Q2.out.alloc (.cells #[.int .u64 x] 23)) _ [x] rfl (Us.one _ _ _ hx0 hx1) (by simp only [List.length_cons, List.length_nil]; omega) (by have := B2.out.size; simp; omega) ?_; intro v3 w3 q3 g3 n3; obtain ⟨ao3, cap3, rfl, -⟩ := q3.form; simp only [List.length_append, List.length_cons, List.length_nil, Nat.zero_add] at q3; have Q3 := hidq q3; have B3 := hidq (below_qu (below_one (o := (.cells #[.int .u64 x] 23)) B2.out) g3 (Q2.out.alloc (.cells #[.int .u64 x] 23)) (Nat.le_refl _) (by have := B2.out.size; simp; omega)); clear q3 g3 n3))
            go_roundw
            case rel => exact ⟨k + 1, by omega, by go_num, by rw [HX.out]; exact Q3.out, B3.out⟩
            case measure => simp [intOf]; omega
          · obtain ⟨gy, oy, rfl⟩ := hay (by omega)
            have HCL := hidq (fun W (q : Qu W w.heap.size 23 (.slice (some ⟨gy, oy, none⟩) C.length cy) C) => q.us.cellAt (C.length - 1) (by omega))
            have hci : ¬ (C.length : Int) = 0 := by omega
            have hcj : ((C.length : Int) == 0) = false := by rw [beq_eq_false_iff_ne]; omega
            have hck : IntKind.i64.wrap ((C.length : Int) - 1) = (C.length : Int) - 1 := by rw [IntKind.wrap_i64]; omega
            have hcl : (C.length : Int) - 1 < C.length := by omega
            have hcm : (0 : Int) ≤ (C.length : Int) - 1 := by omega
            have hcn : ((C.length : Int) - 1).toNat = C.length - 1 := by omega
            by_cases hsame : C[C.length - 1]?.getD 0 = x
            · rw [M.psh_same hC0 hsame] at HX
              go_wp2_with (first | (go_at_call 34; refine (rleaf_any _ y _ hy0 hy1).mono ?_; rw [ly1, ly2]; rintro e w' ⟨rfl, hw⟩; subst w') | (go_at_call 35; refine (chain_any m _ _ hc0 hc1 hcd).mono ?_; rintro e w2 ⟨g2, cap2, rfl, ho2, hb2⟩; have x2 := own_cell ho2 d (by omega); rw [hx] at x2; have Q2 := hidq (QO.out.below hb2); have q2c := HCL.out _ Q2.out; have B2 := hidq (below_trans BB.out hb2); clear ho2 hb2))
              go_roundw
              case rel => exact ⟨k + 1, by omega, by go_num, by rw [HX.out]; exact Q2.out, B2.out⟩
              case measure => simp [intOf]; omega
            · rw [M.psh_diff hsame] at HX
              go_wp2_with (first | (go_at_call 34; refine (rleaf_any _ y _ hy0 hy1).mono ?_; rw [ly1, ly2]; rintro e w' ⟨rfl, hw⟩; subst w') | (go_at_call 35; refine (chain_any m _ _ hc0 hc1 hcd).mono ?_; rintro e w2 ⟨g2, cap2, rfl, ho2, hb2⟩; have x2 := own_cell ho2 d (by omega); rw [hx] at x2; have Q2 := hidq (QO.out.below hb2); have q2c := HCL.out _ Q2.out; have B2 := hidq (below_trans BB.out hb2); clear ho2 hb2) | (at_builtin; refine wpList_append_qu rfl _ _ 22 rfl w.heap.size 23 i0 Tryz.underlying22 hi hz0 hz1 hz2 _ _ rfl (Q2.out.alloc (.cells #[.int .u64 x] 23)) _ [x] rfl (Us.one _ _ _ hx0 hx1) (by simp only [List.length_cons, List.length_nil]; omega) (by have := B2.out.size; simp; omega) ?_; intro v3 w3 q3 g3 n3; obtain ⟨ao3, cap3, rfl, -⟩ := q3.form; simp only [List.length_append, List.length_cons, List.length_nil, Nat.zero_add] at q3; have Q3 := hidq q3; have B3 := hidq (below_qu (below_one (o := (.cells #[.int .u64 x] 23)) B2.out) g3 (Q2.out.alloc (.cells #[.int .u64 x] 23)) (Nat.le_refl _) (by have := B2.out.size; simp; omega)); clear q3 g3 n3))
              go_roundw
              case rel => exact ⟨k + 1, by omega, by go_num, by rw [HX.out]; exact Q3.out, B3.out⟩
              case measure => simp [intOf]; omega
        · obtain rfl : k = n := by omega
          have hki : ¬ (k : Int) < k := by omega
          have HE := hidq (M.trk_all HS.out HD.out)
          rw [HN.out] at HE
          go_wp2
          go_roundw
          case rel => exact ⟨d + 1, by omega, by go_num, by rw [← HE.out]; exact QO.out, BB.out⟩
          case measure => simp [intOf]; omega
    · obtain rfl : d = m + 1 := by omega
      have hdi : ¬ ((m + 1 : Nat) : Int) < (m : Int) + 1 := by omega
      go_wp2
      go_ret
      exact ⟨_, rfl, QX.out.us, BX.out⟩
end Go.Proofs.YtmicgojojkkkhaaGreat
namespace Go.Proofs.YtmicgojojkkkhaaGreat
open Go.RowKit
namespace M
theorem has_tree {h : Int} {L : List Int} (hs : setB h L = true) (x : Int) : has (tree h L) x = inT h L x := by
  rw [Bool.eq_iff_iff, has_iff, (tree_facts hs).2.1]
theorem isV_yes {h : Int} {L : List Int} {n : Int} (hs : setB h L = true) (hk : okB h n = true) : belE h L n = 0 ∧ isV h L n = inT h L n := by
  have e := belE_iff.2 ⟨hs, hk⟩
  refine ⟨e, ?_⟩
  unfold isV
  rw [belV_yes e, inT_bel hk]
theorem isV_no {h : Int} {L : List Int} {n : Int} (hn : (okB h n && setB h L) = false) : belE h L n = 1 ∧ isV h L n = false := by
  have e : belE h L n ≠ 0 := fun e => by
    obtain ⟨h1, h2⟩ := belE_iff.1 e
    rw [h1, h2] at hn; cases hn
  obtain ⟨h1, h2⟩ := belV_no e
  refine ⟨h2, ?_⟩
  unfold isV
  rw [h1]; rfl
theorem may_one (h : Int) (L : List Int) : (okB h 1 && setB h L) = setB h L := by
  rw [ok_one]
  cases hs : setB h L
  · simp
  · have := set_of hs
    rw [ht_mk this.1 this.2.1]; rfl
theorem frk_eq {h : Int} {L : List Int} {n : Int} : frk h L n = (inT h L (2 * n) && inT h L (2 * n + 1)) := by
  unfold frk kid
  by_cases hl : n < p2 h
  · rw [if_pos hl]
    cases h1 : inT h L (2 * n) <;> cases h2 : inT h L (2 * n + 1) <;> simp [h1, h2]
  · rw [if_neg hl]
    cases h1 : inT h L (2 * n)
    · rfl
    · have := (ok_of (inT_iff.1 h1).1).2.2.2
      omega
def outD (h : Int) (L : List Int) (n : Int) (k : Nat) : List Int := (twoK n k).filter (fun c => okB h c && !inT h L c)
theorem outD_zero (h : Int) (L : List Int) (n : Int) : outD h L n 0 = [] := rfl
theorem outD_yes {h : Int} {L : List Int} {n : Int} {k : Nat} (hc : (okB h (2 * n + k) && !inT h L (2 * n + k)) = true) : outD h L n (k + 1) = outD h L n k ++ [2 * n + k] := by
  unfold outD
  rw [twoK_succ, List.filter_append]; simp only [List.filter_cons, List.filter_nil]; rw [if_pos hc]
theorem outD_no {h : Int} {L : List Int} {n : Int} {k : Nat} (hc : (okB h (2 * n + k) && !inT h L (2 * n + k)) = false) : outD h L n (k + 1) = outD h L n k := by
  unfold outD
  rw [twoK_succ, List.filter_append]; simp only [List.filter_cons, List.filter_nil]; rw [if_neg (by rw [hc]; decide), List.append_nil]
theorem outD_two {h : Int} {L : List Int} {n : Int} (hk : okB h n = true) : outD h L n 2 = outk h L n := by
  have e : twoK n 2 = [2 * n, 2 * n + 1] := by simp [twoK, List.range_succ]
  unfold outD outk
  rw [e]
  have kk := ok_of hk
  by_cases hl : n < p2 h
  · rw [if_pos hl]
    have h1 : okB h (2 * n) = true := ok_mk kk.1 kk.2.1 (by omega) (by omega)
    have h2 : okB h (2 * n + 1) = true := ok_mk kk.1 kk.2.1 (by omega) (by omega)
    refine List.filter_congr fun x hx => ?_
    simp at hx
    rcases hx with rfl | rfl
    · rw [h1]; rfl
    · rw [h2]; rfl
  · rw [if_neg hl]
    refine List.filter_eq_nil_iff.2 fun x hx => ?_
    simp at hx
    have : okB h x = false := by
      rw [Bool.eq_false_iff]
      intro ho
      have := (ok_of ho).2.2.2
      omega
    rw [this]; simp
theorem outD_len (h : Int) (L : List Int) (n : Int) (k : Nat) : (outD h L n k).length ≤ k := by
  have e : (twoK n k).length = k := by simp [twoK]
  have h1 : (outD h L n k).length ≤ _ := List.length_filter_le _ _
  omega
theorem flat_len {f : Int → List Int} (hf : ∀ n, (f n).length ≤ 2) : ∀ X : List Int, (X.flatMap f).length ≤ 2 * X.length
  | [] => by simp
  | x :: t => by
    have := flat_len hf t
    have := hf x
    rw [List.flatMap_cons, List.length_append, List.length_cons]; omega
theorem outk_len (h : Int) (L : List Int) (n : Int) : (outk h L n).length ≤ 2 := by
  unfold outk
  split
  · exact List.length_filter_le _ _
  · simp
end M
set_option maxRecDepth 100000 in
set_option maxHeartbeats 1000000 in
theorem rmay9_any (h : Int) (L : List Int) (v : Value) (n : Int) (w : World) (hu : Us w v L) (h0 : 0 ≤ n) (h1 : n ≤ 18446744073709551615) :
    Calls Tryz.prog 77 #[.int .i64 h, v, .int .u64 n] w fun e w' => e = .returned (.bool (M.okB h n && M.setB h L)) ∧ w' = w := by
  cases hk : M.okB h n with
  | false =>
    rw [Bool.false_and]
    go_enter Tryz.func77, Tryz.ntmps77
    go_wp2_with (first | (go_at_call 47; refine (may_any h n _ h0 h1).mono ?_; rw [hk]; rintro e w' ⟨rfl, hw⟩; subst w'))
    go_ret
    exact ⟨rfl, rfl⟩
  | true =>
    rw [Bool.true_and]
    cases hb : M.setB h L with
    | false =>
      have hs : M.setE h L = 1 := by unfold M.setE; rw [hb]; rfl
      go_enter Tryz.func77, Tryz.ntmps77
      go_wp2_with (first | (go_at_call 47; refine (may_any h n _ h0 h1).mono ?_; rw [hk]; rintro e w' ⟨rfl, hw⟩; subst w') | (go_at_call 103; refine (rset_any h L _ _ hu).mono ?_; rw [hs]; rintro e w' ⟨rfl, hw⟩; subst w'))
      go_ret
      exact ⟨rfl, rfl⟩
    | true =>
      have hs : M.setE h L = 0 := by unfold M.setE; rw [hb]; rfl
      go_enter Tryz.func77, Tryz.ntmps77
      go_wp2_with (first | (go_at_call 47; refine (may_any h n _ h0 h1).mono ?_; rw [hk]; rintro e w' ⟨rfl, hw⟩; subst w') | (go_at_call 103; refine (rset_any h L _ _ hu).mono ?_; rw [hs]; rintro e w' ⟨rfl, hw⟩; subst w'))
      go_ret
      exact ⟨rfl, rfl⟩
set_option maxRecDepth 100000 in
set_option maxHeartbeats 4000000 in
theorem rstForks_any (h : Int) (L : List Int) (v : Value) (w : World) (hu : Us w v L) :
    Calls Tryz.prog 49 #[.int .i64 h, v] w fun e w' => ∃ v', e = .returned (.tuple #[v', .int .i64 (M.setE h L)]) ∧ Us w' v' (M.tfV h L) ∧ Below w.heap.size w w' := by
  obtain ⟨i0, hi, hz0, hz1, hz2⟩ := info_parts Tryz.infoU64
  unfold M.tfV
  cases hs : M.setB h L with
  | false =>
    have e : M.setE h L = 1 := by unfold M.setE; rw [hs]; rfl
    rw [if_neg (by rw [e]; decide), e]
    have hm : (M.okB h 1 && M.setB h L) = false := by rw [M.may_one, hs]
    go_enter Tryz.func49, Tryz.ntmps49
    go_wp2_with (first | (go_at_call 77; refine (rmay9_any h L _ _ _ hu (by omega) (by omega)).mono ?_; rw [hm]; rintro e w' ⟨rfl, hw⟩; subst w'))
    go_ret2
    exact ⟨_, rfl, Us.nil _, Below.refl _ _⟩
  | true =>
    have e : M.setE h L = 0 := by unfold M.setE; rw [hs]; rfl
    rw [if_pos e, e]
    have hm : (M.okB h 1 && M.setB h L) = true := by rw [M.may_one, hs]
    obtain ⟨t1, t2, t3⟩ := M.tree_facts hs
    have s3 := (M.set_of hs).2.2.1
    have HB := hidq (fun k (hk : k < (M.tree h L).length) => M.ok_lt (M.inT_iff.1 ((t2 _).1 (show (M.tree h L)[k]?.getD 0 ∈ M.tree h L by rw [List.getElem?_eq_getElem hk]; exact List.getElem_mem hk))).1)
    have HP := hidq (fun k (hk : k < (M.tree h L).length) => (M.ok_of (M.inT_iff.1 ((t2 _).1 (show (M.tree h L)[k]?.getD 0 ∈ M.tree h L by rw [List.getElem?_eq_getElem hk]; exact List.getElem_mem hk))).1).2.2.1)
    have hN : (M.tree h L).length ≤ 40000 := by omega
    have HF := hidq (fun k (hk : k < (M.tree h L).length) => show ((M.tree h L).take (k + 1)).filter (M.frk h L) = ((M.tree h L).take k).filter (M.frk h L) ++ (if M.frk h L ((M.tree h L)[k]?.getD 0) then [(M.tree h L)[k]?.getD 0] else []) by
      rw [take_getD k hk, List.filter_append]
      congr 1
      simp [List.filter_cons])
    have HFl := hidq (fun k => show (((M.tree h L).take k).filter (M.frk h L)).length ≤ 40000 by
      have h1 : (((M.tree h L).take k).filter (M.frk h L)).length ≤ _ := List.length_filter_le _ _
      rw [List.length_take] at h1; omega)
    have HD := hidq (show ((M.tree h L).take (M.tree h L).length).filter (M.frk h L) = (M.tree h L).filter (M.frk h L) by rw [List.take_length])
    clear t1 t2 t3
    go_enter Tryz.func49, Tryz.ntmps49
    go_wp2_with (first | (go_at_call 77; refine (rmay9_any h L _ _ _ hu (by omega) (by omega)).mono ?_; rw [hm]; rintro e w' ⟨rfl, hw⟩; subst w') | (go_at_call 78; refine (rtree_any h L _ _ hs hu).mono ?_; rintro e w1 ⟨v1, rfl, u1, hb1⟩; obtain ⟨a1, c1, rfl, hm1, hv1⟩ := us_view u1; have U1 := hidq u1; have B1 := hidq hb1; have V1 := hidq hv1; clear u1 hb1 hv1))
    generalize hN' : (M.tree h L).length = N at *
    go_loopw [19, 7] (fun i x wr => ∃ (k : Nat), k ≤ N ∧ i = .int .i64 k ∧ Qu wr w1.heap.size 23 x (((M.tree h L).take k).filter (M.frk h L)) ∧ Below w1.heap.size w1 wr) (fun i _ _ => N - (intOf i).toNat)
    case atStart => exact ⟨0, by omega, rfl, by rw [List.take_zero, List.filter_nil]; exact Qu.nil _ _ _ _, Below.refl _ _⟩
    case round =>
      obtain ⟨k, hk, rfl, hq, hb⟩ := hrel
      obtain ⟨ax, cx, rfl, -⟩ := hq.form
      have QO := hidq hq
      have BB := hidq hb
      have UB := hidq (U1.out.below hb)
      clear hq hb
      by_cases hkn : k < N
      · have hki : (k : Int) < N := by omega
        obtain ⟨b1, o1, rfl, -⟩ := V1.out (by omega)
        have yc := UB.out.cellAt k (by omega)
        have y1 := HB.out k hkn
        have y0 := HP.out k hkn
        have HX := hidq (HF.out k hkn)
        have hFl := HFl.out k
        generalize (M.tree h L)[k]?.getD 0 = y at *
        have fe := M.frk_eq (h := h) (L := L) (n := y)
        have w1' : IntKind.u64.wrap (2 * y) = 2 * y := M.wrapu_id (by omega) (by omega)
        have w2' : IntKind.u64.wrap (2 * y + 1) = 2 * y + 1 := M.wrapu_id (by omega) (by omega)
        have T1 := hidq trivial
        cases hi1 : M.inT h L (2 * y) with
        | false =>
          rw [hi1, Bool.false_and] at fe
          rw [fe] at HX
          clear fe
          go_wp2_with (first | (go_at_call 79; clear T1; refine (rleafin_any _ _ _ _ UB.out).mono ?_; rw [M.has_tree hs, hi1]; rintro e w' ⟨rfl, hw⟩; subst w'))
          go_roundw
          case rel => exact ⟨k + 1, by omega, by go_num, by rw [HX.out]; simpa using QO.out, BB.out⟩
          case measure => simp [intOf]; omega
        | true =>
          cases hi2 : M.inT h L (2 * y + 1) with
          | false =>
            rw [hi1, hi2] at fe
            rw [fe] at HX
            clear fe
            go_wp2_with (first | (go_at_call 79; clear T1; refine (rleafin_any _ _ _ _ UB.out).mono ?_; rw [M.has_tree hs, hi1]; rintro e w' ⟨rfl, hw⟩; subst w') | (go_at_call 79; refine (rleafin_any _ _ _ _ UB.out).mono ?_; rw [M.has_tree hs, hi2]; rintro e w' ⟨rfl, hw⟩; subst w'))
            go_roundw
            case rel => exact ⟨k + 1, by omega, by go_num, by rw [HX.out]; simpa using QO.out, BB.out⟩
            case measure => simp [intOf]; omega
          | true =>
            rw [hi1, hi2] at fe
            rw [fe] at HX
            clear fe
            go_wp2_with (first | (go_at_call 79; clear T1; refine (rleafin_any _ _ _ _ UB.out).mono ?_; rw [M.has_tree hs, hi1]; rintro e w' ⟨rfl, hw⟩; subst w') | (go_at_call 79; refine (rleafin_any _ _ _ _ UB.out).mono ?_; rw [M.has_tree hs, hi2]; rintro e w' ⟨rfl, hw⟩; subst w') | (at_builtin; refine wpList_append_qu rfl _ _ 22 rfl w1.heap.size 23 i0 Tryz.underlying22 hi hz0 hz1 hz2 _ _ rfl (QO.out.alloc (.cells #[.int .u64 y] 23)) _ [y] rfl (Us.one _ _ _ (by omega) (by omega)) (by simp only [List.length_cons, List.length_nil]; omega) (by have := BB.out.size; simp; omega) ?_; intro v3 w3 q3 g3 n3; obtain ⟨ao3, cap3, rfl, -⟩ := q3.form; simp only [List.length_append, List.length_cons, List.length_nil, Nat.zero_add] at q3; have Q3 := hidq q3; have B3 := hidq (below_qu (below_one (o := (.cells #[.int .u64 y] 23)) BB.out) g3 (QO.out.alloc (.cells #[.int .u64 y] 23)) (Nat.le_refl _) (by have := BB.out.size; simp; omega)); clear q3 g3 n3))
            go_roundw
            case rel => exact ⟨k + 1, by omega, by go_num, by rw [HX.out]; exact Q3.out, B3.out⟩
            case measure => simp [intOf]; omega
      · obtain rfl : k = N := by omega
        have hki : ¬ (k : Int) < k := by omega
        go_wp2
        go_ret2
        exact ⟨_, rfl, by rw [← HD.out]; exact QO.out.us, below_trans B1.out BB.out⟩
end Go.Proofs.YtmicgojojkkkhaaGreat
