/-
  '==' of subsets; what the document's own answers Same, Useful and Split of layer 8 come to; the chapter's own example; an argument that can be read is a subset. Conditions: each theorem's own premises.
-/
import Derived.Test.YtnfobglaeaalfaaA8
import Derived.Test.YtnfobglaeaalfaaQ3
import Derived.Test.YtnfobglaeaalfaaTR
import Derived.Deep.Strs
import Derived.Deep.DeepCutAuto
import Derived.Laws.StructEq
import Derived.ChangeKeysEq
namespace Go.Proofs.Ytnfobglaeaalfaa
open Go.ChangeShapes Go.WideShapes Go.ChangeAt Go.RowKit
theorem Try.fieldsS : (Try.prog.fieldsOf 24) = #[⟨"I", 22, 0, false, "", "", 0⟩, ⟨"J", 22, 1, false, "", "", 8⟩] := by kernel_rfl
theorem Try.heldS : Try.prog.stoodInHeld 24 = false := by kernel_rfl
theorem Try.structS : Try.prog.underlying 24 = some (.struct (Try.prog.fieldsOf 24)) := by kernel_rfl
/-- '==' of two subsets -/
theorem eqSub (a b x y : Int) (w : World) : (Op.equalIn 10000 24 (.agg #[.int .u64 a, .int .u64 b]) (.agg #[.int .u64 x, .int .u64 y])).run Try.prog w = .ok (decide (((a, b) : Int × Int) = (x, y))) w := by
  rw [run_equalIn_struct w 9999 _ _ _ Try.structS Try.heldS, Try.fieldsS]
  simp [Op.eqFields, part, go_sem]
  by_cases h1 : a = x <;> by_cases h2 : b = y <;> simp [h1, h2]
theorem Ss.at {W : World} {b off n cap : Nat} {L : List (Int × Int)} (h : Ss W (.slice (some ⟨b, off, none⟩) n cap) L) {k : Nat} {x : Int × Int} (hk : L[k]? = some x) :
    W.cell? ⟨b, off + k * 2, none⟩ = some (.int .u64 x.1) ∧ W.cell? ⟨b, off + k * 2 + 1, none⟩ = some (.int .u64 x.2) :=
  ⟨Sl.at h hk (i := 0) (by decide), Sl.at h hk (i := 1) (by decide)⟩
set_option maxRecDepth 100000 in
set_option maxHeartbeats 1000000 in
theorem rsameS_yes (L : List (Int × Int)) (v1 v2 : Value) (w : World) (u1 : Ss w v1 L) (u2 : Ss w v2 L) :
    Calls Try.prog 28 #[v1, v2] w fun e w' => e = .returned (.bool true) ∧ Below w.heap.size w w' := by
  have hq := eqSub
  obtain ⟨a1, c1, rfl, hp1, hp2, hp4⟩ := u1.form
  obtain ⟨a2, c2, rfl, hq1, hq2, hq4⟩ := u2.form
  have hm : L.length ≤ maxLen := by omega
  unfold maxLen at hm
  have U1 := hidq u1
  have U2 := hidq u2
  have HP4 := hidq hp4
  have HQ4 := hidq hq4
  clear hp4 hq4 u1 u2
  generalize hn : L.length = n at *
  have HN := hidq hn
  clear hn
  go_enter Try.func28, Try.ntmps28
  go_wp2
  go_loopw [13] (fun i wr => ∃ k : Nat, k ≤ n ∧ i = .int .i64 k ∧ Below w.heap.size w wr) (fun i _ => n - (intOf i).toNat)
  case atStart => exact ⟨0, by omega, rfl, Below.refl _ _⟩
  case round =>
    obtain ⟨k, hk, rfl, hb⟩ := hrel
    have HB := hidq hb
    by_cases hlt : k < n
    · obtain ⟨b1, o1, rfl⟩ := HP4.out (by omega)
      obtain ⟨b2, o2, rfl⟩ := HQ4.out (by omega)
      obtain ⟨x, hx⟩ : ∃ x, L[k]? = some x := ⟨_, List.getElem?_eq_getElem (by rw [HN.out]; exact hlt)⟩
      obtain ⟨x1, x2⟩ := Ss.at (U1.out.below hb) hx
      obtain ⟨y1, y2⟩ := Ss.at (U2.out.below hb) hx
      clear hb hx
      obtain ⟨s, t⟩ := x
      go_wp2
      go_quiet (fail)
      go_wp2
      go_roundw
      case rel => exact ⟨k + 1, by omega, by go_num, below_dq HB.out _⟩
      case measure => simp [intOf]; omega
    · clear hb
      go_wp2
      go_ret
      exact ⟨rfl, HB.out⟩
set_option maxRecDepth 100000 in
set_option maxHeartbeats 1000000 in
theorem ruseful_any (h I J : Int) (w : World) (h0 : 0 ≤ I) (h1 : I ≤ 18446744073709551615) (h2 : 0 ≤ J) (h3 : J ≤ 18446744073709551615) :
    Calls Try.prog 25 #[.int .i64 h, .agg #[.int .u64 I, .int .u64 J]] w fun e w' => e = .returned (.tuple #[.bool (M.useV h I J), .int .i64 (M.subE h I J)]) ∧ Below w.heap.size w w' := by
  have HA := hidq (fun o => (Below.refl _ w).alloc (Nat.le_refl w.heap.size) o)
  have T1 := hidq trivial
  have T2 := hidq trivial
  have T3 := hidq trivial
  cases hs : M.subB h I J
  · have E := M.subE_no hs
    have V := M.useV_no hs
    rw [V, E]
    clear hs
    go_enter Try.func25, Try.ntmps25
    go_wp2_with (first | (go_at_call 19; refine (rcheck8_any h I _ _ (by omega) (by omega) (by omega) (by omega)).mono ?_; rintro e w1 ⟨rfl, hb1⟩; have X1 := (Bi.new w 24 I _).below hb1; obtain ⟨X1a, X1b⟩ := X1.facts; have hB1 := below_trans (HA.out _) hb1))
    go_ret2
    exact ⟨rfl, hB1⟩
  · have E := M.subE_yes hs
    by_cases hJ : J = 0
    · subst hJ
      obtain ⟨r, hr⟩ : ∃ r, decide (I = 1) = r := ⟨_, rfl⟩
      have V : M.useV h I 0 = r := by unfold M.useV M.useB; rw [hs, if_pos rfl, hr]; rfl
      have hr' : (I == 1) = r := hr
      rw [V, E]
      clear hs
      clear hr
      go_enter Try.func25, Try.ntmps25
      go_wp2_with (first | (go_at_call 19; refine (rcheck8_any h I _ _ (by omega) (by omega) (by omega) (by omega)).mono ?_; rintro e w1 ⟨rfl, hb1⟩; have X1 := (Bi.new w 24 I _).below hb1; obtain ⟨X1a, X1b⟩ := X1.facts; have hB1 := below_trans (HA.out _) hb1))
      go_ret2
      exact ⟨rfl, hB1⟩
    · have hJ' : (J == 0) = false := by rw [beq_eq_false_iff_ne]; exact hJ
      have hI := (M.sub_of hs).1
      obtain ⟨hh1, hh2, i1, _⟩ := M.ok_of hI
      obtain ⟨g0, _, _, gd, gh, _⟩ := M.sub_in hs hJ
      have j1 := (M.ok_of g0).2.2.1
      have d0 := M.dep_nonneg I
      obtain ⟨n1, n2, _, _, n5, _, n7⟩ := M.nx2_facts (d := M.dep I) hh1 hh2 d0 (by omega)
      have n6 := n5 (M.dep J) gh
      have V : M.useV h I J = !M.cutB h I J := by unfold M.useV M.useB; rw [hs, if_neg hJ]; rfl
      have C : M.cutB h I J = (!decide (M.dep I % M.stp h = 0) && decide (M.nxt h (M.dep I) < M.dep J)) := rfl
      rw [← n7] at C
      rw [V, E]
      clear V hs hI g0 n5 n7
      cases hsp : M.spc h (M.dep I)
      · rw [hsp] at C
        by_cases c2 : M.nxt h (M.dep I) < M.dep J
        · rw [decide_eq_true c2] at C
          have c3 : decide (M.dep J ≤ M.nx2 h (M.dep I)) = false := decide_eq_false (fun hx => n6.1 hx c2)
          rw [C]
          clear C n6 c2
          generalize hnx : M.nx2 h (M.dep I) = nx at *
          generalize hdi : M.dep I = di at *
          generalize hdj : M.dep J = dj at *
          go_enter Try.func25, Try.ntmps25
          go_wp2_with (first | (go_at_call 19; refine (rcheck8_any h I _ _ (by omega) (by omega) (by omega) (by omega)).mono ?_; rintro e w1 ⟨rfl, hb1⟩; have X1 := (Bi.new w 24 I _).below hb1; obtain ⟨X1a, X1b⟩ := X1.facts; have hB1 := below_trans (HA.out _) hb1))
          go_region_held3 (fun X => X.cell? ⟨w.heap.size, 0, none⟩ = some (.int .u64 I) ∧ X.cell? ⟨w.heap.size, 1, none⟩ = some (.int .u64 J)) (go_keep)
            (first | (go_at_call 44; clear T1; refine (depth8_any _ _ (by omega) (by omega)).mono ?_; rintro e wA ⟨rfl, hbA⟩; have hdA : Below w1.heap.size w1 wA := below_trans ((Below.refl w1.heap.size w1).drew) hbA; have XA := X1.below hdA; obtain ⟨XAa, XAb⟩ := XA.facts; have hBA := below_trans hB1 hdA) | (go_at_call 44; clear T2; refine (depth8_any _ _ (by omega) (by omega)).mono ?_; rintro e wB ⟨rfl, hbB⟩; have XB := XA.below hbB; obtain ⟨XBa, XBb⟩ := XB.facts; have hBB := below_trans hBA hbB) | (go_at_call 44; clear T3; refine (depth8_any _ _ (by omega) (by omega)).mono ?_; rintro e wC ⟨rfl, hbC⟩; have XC := XB.below hbC; obtain ⟨XCa, XCb⟩ := XC.facts; have hBC := below_trans hBB hbC) | (go_at_call 43; refine (special_any _ _ _ (by omega) (by omega) (by omega) (by omega)).mono ?_; rintro e w' ⟨rfl, hw⟩; subst w') | (go_at_call 45; refine (next_any _ _ _ (by omega) (by omega) (by omega) (by omega)).mono ?_; rintro e w' ⟨rfl, hw⟩; subst w'))
          all_goals go_wp2
          all_goals go_ret2
          all_goals exact ⟨rfl, hBC⟩
        · rw [decide_eq_false c2] at C
          have c3 : M.dep J ≤ M.nx2 h (M.dep I) := n6.2 c2
          rw [C]
          clear C n6 c2
          generalize hnx : M.nx2 h (M.dep I) = nx at *
          generalize hdi : M.dep I = di at *
          generalize hdj : M.dep J = dj at *
          go_enter Try.func25, Try.ntmps25
          go_wp2_with (first | (go_at_call 19; refine (rcheck8_any h I _ _ (by omega) (by omega) (by omega) (by omega)).mono ?_; rintro e w1 ⟨rfl, hb1⟩; have X1 := (Bi.new w 24 I _).below hb1; obtain ⟨X1a, X1b⟩ := X1.facts; have hB1 := below_trans (HA.out _) hb1))
          go_region_held3 (fun X => X.cell? ⟨w.heap.size, 0, none⟩ = some (.int .u64 I) ∧ X.cell? ⟨w.heap.size, 1, none⟩ = some (.int .u64 J)) (go_keep)
            (first | (go_at_call 44; clear T1; refine (depth8_any _ _ (by omega) (by omega)).mono ?_; rintro e wA ⟨rfl, hbA⟩; have hdA : Below w1.heap.size w1 wA := below_trans ((Below.refl w1.heap.size w1).drew) hbA; have XA := X1.below hdA; obtain ⟨XAa, XAb⟩ := XA.facts; have hBA := below_trans hB1 hdA) | (go_at_call 44; clear T2; refine (depth8_any _ _ (by omega) (by omega)).mono ?_; rintro e wB ⟨rfl, hbB⟩; have XB := XA.below hbB; obtain ⟨XBa, XBb⟩ := XB.facts; have hBB := below_trans hBA hbB) | (go_at_call 44; clear T3; refine (depth8_any _ _ (by omega) (by omega)).mono ?_; rintro e wC ⟨rfl, hbC⟩; have XC := XB.below hbC; obtain ⟨XCa, XCb⟩ := XC.facts; have hBC := below_trans hBB hbC) | (go_at_call 43; refine (special_any _ _ _ (by omega) (by omega) (by omega) (by omega)).mono ?_; rintro e w' ⟨rfl, hw⟩; subst w') | (go_at_call 45; refine (next_any _ _ _ (by omega) (by omega) (by omega) (by omega)).mono ?_; rintro e w' ⟨rfl, hw⟩; subst w'))
          all_goals go_wp2
          all_goals go_ret2
          all_goals exact ⟨rfl, hBC⟩
      · rw [hsp] at C
        rw [C]
        have SP := hidq (fun X => special_any h (M.dep I) X hh1 hh2 d0 (by omega))
        have DP := hidq (fun X => depth8_any I X i1 h1)
        rw [hsp] at SP
        clear C n6
        generalize M.dep I = di at *
        go_enter Try.func25, Try.ntmps25
        go_upto_region 5 with (first | (go_at_call 19; refine (rcheck8_any h I _ _ (by omega) (by omega) (by omega) (by omega)).mono ?_; rintro e w1 ⟨rfl, hb1⟩; have X1 := (Bi.new w 24 I _).below hb1; obtain ⟨X1a, X1b⟩ := X1.facts; have hB1 := below_trans (HA.out _) hb1))
        obtain ⟨G, HG, HF, HO, HW, ne⟩ := clq_of w w1 (fun X => Bi X w.heap.size 24 I J) (fun _ _ h hb => h.below hb) X1 hB1
        have h3 := fun c : Clq G => (HF.out c).facts.1
        have h4 := fun c : Clq G => (HF.out c).facts.2
        clear X1 X1a X1b hB1 hb1
        refine regionq (by kernel_rfl) (by kernel_rfl) HW.out ?_
        repeat (go_big_quiet_step (first | (go_at_call 44; exact quietq HG.out _ (DP.out _)) | (go_at_call 43; exact quietq_same _ (SP.out _))))
        refine wpQuiet_nil ?_
        rintro _ ⟨s2, rfl⟩
        have hB2 := hidq (HO.out s2)
        go_wp2
        go_ret2
        exact ⟨rfl, hB2.out⟩
set_option maxHeartbeats 400000 in
theorem rsplit_no (h I J : Int) (w : World) (hs : M.subB h I J = false) (h0 : 0 ≤ I) (h1 : I ≤ 18446744073709551615) (h2 : 0 ≤ J) (h3 : J ≤ 18446744073709551615) :
    Calls Try.prog 27 #[.int .i64 h, .agg #[.int .u64 I, .int .u64 J]] w fun e w' => e = .returned (.tuple #[.slice none 0 0, .int .i64 1]) ∧ Below w.heap.size w w' := by
  have HA := hidq (fun o => (Below.refl _ w).alloc (Nat.le_refl w.heap.size) o)
  have E := M.subE_no hs
  have V := M.useV_no hs
  clear hs
  go_enter Try.func27, Try.ntmps27
  go_wp2_with (first | (go_at_call 25; refine (ruseful_any h I _ _ (by omega) (by omega) (by omega) (by omega)).mono ?_; rintro e w1 ⟨rfl, hb1⟩; have X1 := (Bi.new w 24 I _).below hb1; obtain ⟨X1a, X1b⟩ := X1.facts; have hB1 := below_trans (HA.out _) hb1))
  go_ret2
  exact ⟨rfl, hB1⟩
set_option maxRecDepth 100000 in
set_option maxHeartbeats 1000000 in
theorem rsplit_yes (h I J : Int) (w : World) (hs : M.subB h I J = true) (h0 : 0 ≤ I) (h1 : I ≤ 18446744073709551615) (h2 : 0 ≤ J) (h3 : J ≤ 18446744073709551615) :
    Calls Try.prog 27 #[.int .i64 h, .agg #[.int .u64 I, .int .u64 J]] w fun e w' => ∃ v, e = .returned (.tuple #[v, .int .i64 0]) ∧ Ss w' v (M.spl h I J) ∧ Below w.heap.size w w' := by
  have HA := hidq (fun o => (Below.refl _ w).alloc (Nat.le_refl w.heap.size) o)
  have T1 := hidq trivial
  have E := M.subE_yes hs
  by_cases hJ : J = 0
  · subst hJ
    have V : M.spl h I 0 = [(I, 0)] := by unfold M.spl; rw [if_pos rfl]
    rw [V]
    clear V
    obtain ⟨r, hr⟩ : ∃ r, M.useV h I 0 = r := ⟨_, rfl⟩
    clear hs
    cases r with
    | true =>
      go_enter Try.func27, Try.ntmps27
      go_wp2_with (first | (go_at_call 25; refine (ruseful_any h I _ _ (by omega) (by omega) (by omega) (by omega)).mono ?_; rintro e w1 ⟨rfl, hb1⟩; have X1 := (Bi.new w 24 I _).below hb1; obtain ⟨X1a, X1b⟩ := X1.facts; have hB1 := below_trans (HA.out _) hb1))
      go_ret2
      exact ⟨_, rfl, Ss.oneq _ _ I 0 _ (by first | rfl | simp) (by omega), below_one hB1⟩
    | false =>
      go_enter Try.func27, Try.ntmps27
      go_wp2_with (first | (go_at_call 25; refine (ruseful_any h I _ _ (by omega) (by omega) (by omega) (by omega)).mono ?_; rintro e w1 ⟨rfl, hb1⟩; have X1 := (Bi.new w 24 I _).below hb1; obtain ⟨X1a, X1b⟩ := X1.facts; have hB1 := below_trans (HA.out _) hb1))
      go_ret2
      exact ⟨_, rfl, Ss.oneq _ _ I 0 _ (by first | rfl | simp) (by omega), below_one hB1⟩
  · have hJ' : (J == 0) = false := by rw [beq_eq_false_iff_ne]; exact hJ
    have U : M.useV h I J = !M.cutB h I J := by unfold M.useV M.useB; rw [hs, if_neg hJ]; rfl
    cases hc : M.cutB h I J
    · have V : M.spl h I J = [(I, J)] := by unfold M.spl; rw [if_neg hJ, hc]; rfl
      rw [hc] at U
      have U' : M.useV h I J = true := U
      rw [V]
      clear V U hc hs
      go_enter Try.func27, Try.ntmps27
      go_wp2_with (first | (go_at_call 25; refine (ruseful_any h I _ _ (by omega) (by omega) (by omega) (by omega)).mono ?_; rintro e w1 ⟨rfl, hb1⟩; have X1 := (Bi.new w 24 I _).below hb1; obtain ⟨X1a, X1b⟩ := X1.facts; have hB1 := below_trans (HA.out _) hb1))
      go_ret2
      exact ⟨_, rfl, Ss.oneq _ _ I J _ (by first | rfl | simp) (by omega), below_one hB1⟩
    · have V : M.spl h I J = [(I, M.cutV h I J), (M.cutV h I J, J)] := by unfold M.spl; rw [if_neg hJ, hc]; rfl
      rw [hc] at U
      have U' : M.useV h I J = false := U
      obtain ⟨q1, q2, q3, q4, _⟩ := M.cut_of hs hJ hc
      have k1 := M.ok_lt q4
      have k2 := (M.ok_of q4).2.2.1
      have hI := (M.sub_of hs).1
      obtain ⟨hh1, hh2, i1, _⟩ := M.ok_of hI
      obtain ⟨g0, _, _, gd, gh, _⟩ := M.sub_in hs hJ
      have j1 := (M.ok_of g0).2.2.1
      have d0 := M.dep_nonneg I
      have n6 := (M.nx2_facts (d := M.dep I) hh1 hh2 d0 (by omega)).2.2.2.2.2.1 (M.dep J) gh q2
      have e1 : M.upE h J (M.nx2 h (M.dep I)) = 0 := by rw [n6]; unfold M.upE; rw [if_pos g0, if_pos (by omega)]
      have e2 : M.upV h J (M.nx2 h (M.dep I)) = M.cutV h I J := by rw [q3]; unfold M.upV; rw [if_pos e1, n6]
      rw [V]
      clear V U hc hs hI g0 q1 q2 q3 q4 n6
      generalize hcv : M.cutV h I J = k at *
      generalize hnx : M.nx2 h (M.dep I) = nx at *
      generalize hdi : M.dep I = di at *
      go_enter Try.func27, Try.ntmps27
      go_wp2_with (first | (go_at_call 25; refine (ruseful_any h I _ _ (by omega) (by omega) (by omega) (by omega)).mono ?_; rintro e w1 ⟨rfl, hb1⟩; have X1 := (Bi.new w 24 I _).below hb1; obtain ⟨X1a, X1b⟩ := X1.facts; have hB1 := below_trans (HA.out _) hb1))
      go_region_held3 (fun X => X.cell? ⟨w.heap.size, 0, none⟩ = some (.int .u64 I) ∧ X.cell? ⟨w.heap.size, 1, none⟩ = some (.int .u64 J)) (go_keep)
        (first | (go_at_call 44; clear T1; refine (depth8_any _ _ (by omega) (by omega)).mono ?_; rintro e wA ⟨rfl, hbA⟩; have hdA : Below w1.heap.size w1 wA := below_trans ((Below.refl w1.heap.size w1).drew) hbA; have XA := X1.below hdA; obtain ⟨XAa, XAb⟩ := XA.facts; have hBA := below_trans hB1 hdA) | (go_at_call 45; refine (next_any _ _ _ (by omega) (by omega) (by omega) (by omega)).mono ?_; rintro e w' ⟨rfl, hw⟩; subst w') | (go_at_call 46; refine (rup_any h J _ _ (by omega) (by omega)).mono ?_; rintro e wB ⟨rfl, hbB⟩; have XB := XA.below hbB; obtain ⟨XBa, XBb⟩ := XB.facts; have hBB := below_trans hBA hbB))
      all_goals go_wp2
      all_goals go_ret2
      all_goals exact ⟨_, rfl, Ss.twoq _ _ I k k J _ (by first | rfl | simp) (by omega) (by omega), below_one hBB⟩
theorem M.live8 : M.subB 4 2 16 = true := by decide +kernel
theorem M.live8s : M.spl 4 2 16 = [(2, 4), (4, 16)] := by decide +kernel
set_option maxRecDepth 100000 in
set_option maxHeartbeats 400000 in
theorem live8_any (w : World) :
    Calls Try.prog 10 #[] w fun e w' => e = .returned (.bool true) ∧ Below w.heap.size w w' := by
  go_enter Try.func10, Try.ntmps10
  go_wp2_with (first | (go_at_call 26; refine (split_yes 4 2 16 _ M.live8 (by omega) (by omega) (by omega) (by omega)).mono ?_; rw [M.live8s]; rintro e w1 ⟨v', rfl, hp1, hb1⟩; obtain ⟨_, _, rfl, _⟩ := hp1.form) | (go_at_call 28; refine (rsameS_yes [(2, 4), (4, 16)] _ _ _ (hp1.alloc _) (Ss.twoq _ _ 2 4 4 16 _ (by first | rfl | simp) (by omega) (by omega))).mono ?_; rintro e w2 ⟨rfl, hb2⟩))
  go_ret
  exact ⟨rfl, below_trans (below_one hb1) hb2⟩
theorem Try.cellsSub : Try.prog.cellsOf 24 = 2 := by kernel_rfl
theorem okWide_struct8 {P : Program} {w : World} {r : Reach} {base : Nat} {t : TypeId} {v : Value} {fs : Array Field} (ht : P.underlying t = some (.struct fs)) (h : Value.okWide P w r base t v) : ∃ cs, v = .agg cs ∧ cs.size = P.cellsOf t := by
  simp only [Value.okWide, ht] at h
  obtain ⟨cs, h1, h2, _⟩ := h
  exact ⟨cs, h1, h2⟩
theorem trod_two {H : Type} {enc : TypeId × Value → H} {P : Program} {W : World} {base : Nat} {spare : Nat → Bool} {held : Bool} {t : TypeId} {f0 f1 : Field} {fuel : Nat} {cs : List Value} {x : DataW H × List MemPlace} (ht : P.underlying t = some (.struct #[f0, f1])) (h : DataW.trod enc P W base spare held fuel t cs = some x) :
    ∃ y0 y1 n, DataW.trod enc P W base spare held n f0.type ((cs.drop f0.offset).take (P.cellsOf f0.type)) = some y0 ∧ DataW.trod enc P W base spare held n f1.type ((cs.drop f1.offset).take (P.cellsOf f1.type)) = some y1 := by
  obtain ⟨xs, n, _, rfl, _, hlen, hf⟩ := DataW.trod_struct ht h
  match xs, hlen with
  | [y0, y1], _ => exact ⟨y0, y1, n, by simpa using hf 0 f0 rfl, by simpa using hf 1 f1 rfl⟩
def M.fitS (x : Int × Int) : Prop := (0 ≤ x.1 ∧ x.1 ≤ 18446744073709551615) ∧ 0 ≤ x.2 ∧ x.2 ≤ 18446744073709551615
def subV (x : Int × Int) : Value := .agg #[.int .u64 x.1, .int .u64 x.2]
theorem sub_of_cells {H : Type} {enc : TypeId × Value → H} {W : World} (n : Nat) (cs : List Value) (y : DataW H × List MemPlace) (hl : cs.length = 2)
    (h : DataW.trod enc Try.prog W 0 (fun _ => true) true n 24 cs = some y) : ∃ x : Int × Int, cs = [.int .u64 x.1, .int .u64 x.2] ∧ M.fitS x := by
  match cs, hl with
  | [u, v], _ =>
    obtain ⟨y0, y1, m, h0, h1⟩ := trod_two Try.underlying24 h
    rw [Try.cellsU64] at h0 h1
    obtain ⟨a, ha, _, wa⟩ := DataW.trod_int Try.underlying22 h0
    obtain ⟨b, hb, _, wb⟩ := DataW.trod_int Try.underlying22 h1
    have e0 : u = .int .u64 a := by simpa [Value.cells] using ha
    have e1 : v = .int .u64 b := by simpa [Value.cells] using hb
    exact ⟨(a, b), by rw [e0, e1], bounds_u64 wa, bounds_u64 wb⟩
set_option maxRecDepth 100000 in
theorem sub_of_trod {H : Type} {enc : TypeId × Value → H} {W : World} {v : Value} {d : DataW H} {p : List MemPlace} {base : Nat} (hok : Value.okWide Try.prog W .any base 24 v)
    (h : DataW.Trod enc Try.prog W 0 (fun _ => true) true 24 v d p) : ∃ x : Int × Int, v = subV x ∧ M.fitS x := by
  obtain ⟨cs, rfl, hs⟩ := okWide_struct8 Try.underlying24 hok
  rw [Try.cellsSub] at hs
  obtain ⟨fuel, hf⟩ := h
  obtain ⟨t, e, ht⟩ := sub_of_cells fuel cs.toList _ (by simpa using hs) hf
  refine ⟨t, ?_, ht⟩
  unfold subV
  rw [← e]
end Go.Proofs.Ytnfobglaeaalfaa
