/-
  What the document's own answers Leaves, Has, Useful, Split and Same of layer 8 come to. Conditions: the numbers fit their kinds.
-/
import Derived.Test.YtnfobglaeaalfaaA6
import Derived.Test.YtnfobglaeaalfaaA4
import Derived.Deep.RegionHeld3
namespace Go.Proofs.Ytnfobglaeaalfaa
open Go.RowKit
set_option maxHeartbeats 400000 in
theorem rleaves8_no (h I J : Int) (w : World) (hs : M.subB h I J = false) (h0 : 0 ≤ I) (h1 : I ≤ 18446744073709551615) (h2 : 0 ≤ J) (h3 : J ≤ 18446744073709551615) :
    Calls Try.prog 12 #[.int .i64 h, .agg #[.int .u64 I, .int .u64 J]] w fun e w' => e = .returned (.tuple #[.slice none 0 0, .int .i64 1]) ∧ Below w.heap.size w w' := by
  have HA := hidq (fun o => (Below.refl _ w).alloc (Nat.le_refl w.heap.size) o)
  have E := M.subE_no hs
  clear hs
  go_enter Try.func12, Try.ntmps12
  go_wp2_with (first | (go_at_call 19; refine (rcheck8_any h I _ _ (by omega) (by omega) (by omega) (by omega)).mono ?_; rintro e w0 ⟨rfl, hb0⟩; have X0 := (Bi.new w 24 I _).below hb0; obtain ⟨X0a, X0b⟩ := X0.facts; have hB0 := below_trans (HA.out _) hb0))
  go_ret2
  exact ⟨rfl, hB0⟩
set_option maxRecDepth 100000 in
set_option maxHeartbeats 1000000 in
theorem rleaves8_yes (h I J : Int) (w : World) (hs : M.subB h I J = true) (h0 : 0 ≤ I) (h1 : I ≤ 18446744073709551615) (h2 : 0 ≤ J) (h3 : J ≤ 18446744073709551615) :
    Calls Try.prog 12 #[.int .i64 h, .agg #[.int .u64 I, .int .u64 J]] w fun e w' => ∃ v, e = .returned (.tuple #[v, .int .i64 0]) ∧ Ps w' v (M.lvs h I J) ∧ Below w.heap.size w w' := by
  have HA := hidq (fun o => (Below.refl _ w).alloc (Nat.le_refl w.heap.size) o)
  have E := M.subE_yes hs
  have hI := (M.sub_of hs).1
  obtain ⟨b1, b2, b3⟩ := M.low_bd hI
  have hh := M.ok_of hI
  have p32 := M.p2_32 hh.2.1
  have E1 := M.eChk_ok hI
  have L1 := M.lowV_ok hI
  have L2 := M.highV_ok hI
  have T1 := hid trivial
  have T2 := hid trivial
  by_cases hJ : J = 0
  · subst hJ
    have e : M.lvs h I 0 = [(M.low h I, M.high h I)] := by unfold M.lvs; rw [if_pos rfl]
    rw [e]
    clear e hs hI hh
    generalize M.low h I = a at *
    generalize M.high h I = b at *
    go_enter Try.func12, Try.ntmps12
    go_wp2_with (first | (go_at_call 19; refine (rcheck8_any h I _ _ (by omega) (by omega) (by omega) (by omega)).mono ?_; rintro e w0 ⟨rfl, hb0⟩; have X0 := (Bi.new w 24 I _).below hb0; obtain ⟨X0a, X0b⟩ := X0.facts; have hB0 := below_trans (HA.out _) hb0) | (go_at_call 32; clear T1; refine (rleaves_any _ _ _ (by omega) (by omega)).mono ?_; rintro e w1 ⟨rfl, hb1⟩; have X1 := X0.below hb1; obtain ⟨X1fa, X1fb⟩ := X1.facts; obtain ⟨X1ha, X1hb⟩ := (X1.alloc (.cells #[.int .u64 a, .int .u64 b] 48)).facts; have hB1 := below_trans hB0 hb1; clear X0a X0b))
    go_ret2
    exact ⟨_, rfl, Ps.oneq _ a b _ _ (by first | rfl | simp) (by omega), below_one (below_one hB1)⟩
  · obtain ⟨g0, _, _, _, _, g1, g2, g3, g4⟩ := M.sub_in hs hJ
    have E2 := M.eChk_ok g0
    have L3 := M.lowV_ok g0
    have L4 := M.highV_ok g0
    have HF := hid (M.lvs_fit hs)
    have HL : Hid (M.lvs h I J = (if M.low h I < M.low h J then [(M.low h I, M.low h J - 1)] else []) ++ (if M.high h J < M.high h I then [(M.high h J + 1, M.high h I)] else [])) := by show _ = _; unfold M.lvs; rw [if_neg hJ]
    obtain ⟨i0, hi, hz0, hz1, hz2⟩ := info_parts Try.infoSpan
    clear hs hI hh g0
    generalize M.low h I = a at *
    generalize M.high h I = b at *
    generalize M.low h J = c at *
    generalize M.high h J = d at *
    by_cases c1 : a < c
    · rw [if_pos c1] at HL
      by_cases c2 : d < b
      · rw [if_pos c2] at HL
        rw [HL.out] at HF ⊢
        clear HL
        go_enter Try.func12, Try.ntmps12
        go_wp2_with (first | (go_at_call 19; refine (rcheck8_any h I _ _ (by omega) (by omega) (by omega) (by omega)).mono ?_; rintro e w0 ⟨rfl, hb0⟩; have X0 := (Bi.new w 24 I _).below hb0; obtain ⟨X0a, X0b⟩ := X0.facts; have hB0 := below_trans (HA.out _) hb0) | (go_at_call 32; clear T1; refine (rleaves_any _ _ _ (by omega) (by omega)).mono ?_; rintro e w1 ⟨rfl, hb1⟩; have X1 := X0.below hb1; obtain ⟨X1fa, X1fb⟩ := X1.facts; obtain ⟨X1ha, X1hb⟩ := (X1.alloc (.cells #[.int .u64 a, .int .u64 b] 48)).facts; have hB1 := below_trans hB0 hb1; clear X0a X0b) | (go_at_call 32; clear T2; refine (rleaves_any _ _ _ (by omega) (by omega)).mono ?_; rintro e w2 ⟨rfl, hb2⟩; have X2 := (Bi.new w1 48 a b).below hb2; obtain ⟨X2fa, X2fb⟩ := X2.facts; have hB2 := below_trans (below_one hB1) hb2; obtain ⟨X2ga, X2gb⟩ := (X2.alloc (.cells #[.int .u64 c, .int .u64 d] 48)).facts; have X3 := Bi.new w2 48 c d; obtain ⟨X3fa, X3fb⟩ := X3.facts; have hB3 := below_one (o := .cells #[.int .u64 c, .int .u64 d] 48) hB2) | (at_builtin; clear X1 X1fa X1fb X1ha X1hb; refine wpList_append_ps rfl _ _ 26 rfl w.heap.size 48 i0 Try.underlying26 hi hz0 hz1 hz2 _ _ [] rfl (World.ownsRow_nil _ _ _ _) _ [(a, c - 1)] rfl (Ps.oneq _ a (c - 1) _ _ (by first | rfl | simp) (by omega)) (by simp) (by have := hB3.size; (try simp); (try simp at this); omega) ?_; intro v3 w3 hown3 hgrow3; have hb3 := below_grown hgrow3 rfl; have X4 := ((X2.alloc (.cells #[.int .u64 c, .int .u64 d] 48)).alloc (.cells #[.int .u64 a, .int .u64 (c - 1)] 48)).below hb3; obtain ⟨X4fa, X4fb⟩ := X4.facts; have X5 := (X3.alloc (.cells #[.int .u64 a, .int .u64 (c - 1)] 48)).below hb3; obtain ⟨X5fa, X5fb⟩ := X5.facts; have hB4 := below_trans (below_one (o := .cells #[.int .u64 a, .int .u64 (c - 1)] 48) hB3) hb3; clear X2fa X2fb X2ga X2gb X3fa X3fb) | (at_builtin; refine wpList_append_ps rfl _ _ 26 rfl w.heap.size 48 i0 Try.underlying26 hi hz0 hz1 hz2 _ _ [(a, c - 1)] rfl (by first | exact hown3.alloc _ | exact hown3) _ [(d + 1, b)] rfl (Ps.oneq _ (d + 1) b _ _ (by first | rfl | simp) (by omega)) (by simp) (by have := hB4.size; (try simp); (try simp at this); omega) ?_; intro v5 w5 hown5 hgrow5))
        go_ret2
        exact ⟨_, rfl, Ps.of_own hown5 HF.out, (below_one hB4).grown hgrow5 (by have := hB4.size; (try simp); (try simp at this); omega) (fun q hq => (hown3.lt q hq).1)⟩
      · rw [if_neg c2] at HL
        rw [HL.out] at HF ⊢
        clear HL
        go_enter Try.func12, Try.ntmps12
        go_wp2_with (first | (go_at_call 19; refine (rcheck8_any h I _ _ (by omega) (by omega) (by omega) (by omega)).mono ?_; rintro e w0 ⟨rfl, hb0⟩; have X0 := (Bi.new w 24 I _).below hb0; obtain ⟨X0a, X0b⟩ := X0.facts; have hB0 := below_trans (HA.out _) hb0) | (go_at_call 32; clear T1; refine (rleaves_any _ _ _ (by omega) (by omega)).mono ?_; rintro e w1 ⟨rfl, hb1⟩; have X1 := X0.below hb1; obtain ⟨X1fa, X1fb⟩ := X1.facts; obtain ⟨X1ha, X1hb⟩ := (X1.alloc (.cells #[.int .u64 a, .int .u64 b] 48)).facts; have hB1 := below_trans hB0 hb1; clear X0a X0b) | (go_at_call 32; clear T2; refine (rleaves_any _ _ _ (by omega) (by omega)).mono ?_; rintro e w2 ⟨rfl, hb2⟩; have X2 := (Bi.new w1 48 a b).below hb2; obtain ⟨X2fa, X2fb⟩ := X2.facts; have hB2 := below_trans (below_one hB1) hb2; obtain ⟨X2ga, X2gb⟩ := (X2.alloc (.cells #[.int .u64 c, .int .u64 d] 48)).facts; have X3 := Bi.new w2 48 c d; obtain ⟨X3fa, X3fb⟩ := X3.facts; have hB3 := below_one (o := .cells #[.int .u64 c, .int .u64 d] 48) hB2) | (at_builtin; clear X1 X1fa X1fb X1ha X1hb; refine wpList_append_ps rfl _ _ 26 rfl w.heap.size 48 i0 Try.underlying26 hi hz0 hz1 hz2 _ _ [] rfl (World.ownsRow_nil _ _ _ _) _ [(a, c - 1)] rfl (Ps.oneq _ a (c - 1) _ _ (by first | rfl | simp) (by omega)) (by simp) (by have := hB3.size; (try simp); (try simp at this); omega) ?_; intro v3 w3 hown3 hgrow3; have hb3 := below_grown hgrow3 rfl; have X4 := ((X2.alloc (.cells #[.int .u64 c, .int .u64 d] 48)).alloc (.cells #[.int .u64 a, .int .u64 (c - 1)] 48)).below hb3; obtain ⟨X4fa, X4fb⟩ := X4.facts; have X5 := (X3.alloc (.cells #[.int .u64 a, .int .u64 (c - 1)] 48)).below hb3; obtain ⟨X5fa, X5fb⟩ := X5.facts; have hB4 := below_trans (below_one (o := .cells #[.int .u64 a, .int .u64 (c - 1)] 48) hB3) hb3; clear X2fa X2fb X2ga X2gb X3fa X3fb))
        go_ret2
        exact ⟨_, rfl, Ps.of_own hown3 HF.out, hB4⟩
    · have c2 : d < b := by omega
      rw [if_neg c1, if_pos c2] at HL
      rw [HL.out] at HF ⊢
      clear HL
      go_enter Try.func12, Try.ntmps12
      go_wp2_with (first | (go_at_call 19; refine (rcheck8_any h I _ _ (by omega) (by omega) (by omega) (by omega)).mono ?_; rintro e w0 ⟨rfl, hb0⟩; have X0 := (Bi.new w 24 I _).below hb0; obtain ⟨X0a, X0b⟩ := X0.facts; have hB0 := below_trans (HA.out _) hb0) | (go_at_call 32; clear T1; refine (rleaves_any _ _ _ (by omega) (by omega)).mono ?_; rintro e w1 ⟨rfl, hb1⟩; have X1 := X0.below hb1; obtain ⟨X1fa, X1fb⟩ := X1.facts; obtain ⟨X1ha, X1hb⟩ := (X1.alloc (.cells #[.int .u64 a, .int .u64 b] 48)).facts; have hB1 := below_trans hB0 hb1; clear X0a X0b) | (go_at_call 32; clear T2; refine (rleaves_any _ _ _ (by omega) (by omega)).mono ?_; rintro e w2 ⟨rfl, hb2⟩; have X2 := (Bi.new w1 48 a b).below hb2; obtain ⟨X2fa, X2fb⟩ := X2.facts; have hB2 := below_trans (below_one hB1) hb2; obtain ⟨X2ga, X2gb⟩ := (X2.alloc (.cells #[.int .u64 c, .int .u64 d] 48)).facts; have X3 := Bi.new w2 48 c d; obtain ⟨X3fa, X3fb⟩ := X3.facts; have hB3 := below_one (o := .cells #[.int .u64 c, .int .u64 d] 48) hB2) | (at_builtin; clear X1 X1fa X1fb X1ha X1hb; refine wpList_append_ps rfl _ _ 26 rfl w.heap.size 48 i0 Try.underlying26 hi hz0 hz1 hz2 _ _ [] rfl (World.ownsRow_nil _ _ _ _) _ [(d + 1, b)] rfl (Ps.oneq _ (d + 1) b _ _ (by first | rfl | simp) (by omega)) (by simp) (by have := hB3.size; (try simp); (try simp at this); omega) ?_; intro v3 w3 hown3 hgrow3; have hb3 := below_grown hgrow3 rfl; have X4 := ((X2.alloc (.cells #[.int .u64 c, .int .u64 d] 48)).alloc (.cells #[.int .u64 (d + 1), .int .u64 b] 48)).below hb3; obtain ⟨X4fa, X4fb⟩ := X4.facts; have X5 := (X3.alloc (.cells #[.int .u64 (d + 1), .int .u64 b] 48)).below hb3; obtain ⟨X5fa, X5fb⟩ := X5.facts; have hB4 := below_trans (below_one (o := .cells #[.int .u64 (d + 1), .int .u64 b] 48) hB3) hb3; clear X2fa X2fb X2ga X2gb X3fa X3fb))
      go_ret2
      exact ⟨_, rfl, Ps.of_own hown3 HF.out, hB4⟩
set_option maxRecDepth 100000 in
set_option maxHeartbeats 1000000 in
theorem rhas8_any (h I J i : Int) (w : World) (h0 : 0 ≤ I) (h1 : I ≤ 18446744073709551615) (h2 : 0 ≤ J) (h3 : J ≤ 18446744073709551615) (h4 : 0 ≤ i) (h5 : i ≤ 18446744073709551615) :
    Calls Try.prog 14 #[.int .i64 h, .agg #[.int .u64 I, .int .u64 J], .int .u64 i] w fun e w' => e = .returned (.tuple #[.bool (M.shV h I J i), .int .i64 (M.shE h I J i)]) ∧ Below w.heap.size w w' := by
  have HA := hidq (fun o => (Below.refl _ w).alloc (Nat.le_refl w.heap.size) o)
  have T1 := hid trivial
  have T2 := hid trivial
  cases hs : M.subB h I J
  · have E := M.subE_no hs
    obtain ⟨e1, e2⟩ := M.sh_no (h := h) (I := I) (J := J) (i := i) (by rw [hs]; simp)
    rw [e1, e2]
    clear hs e1 e2
    go_enter Try.func14, Try.ntmps14
    go_wp2_with (first | (go_at_call 19; refine (rcheck8_any h I _ _ (by omega) (by omega) (by omega) (by omega)).mono ?_; rintro e w0 ⟨rfl, hb0⟩; have X0 := (Bi.new w 24 I _).below hb0; obtain ⟨X0a, X0b⟩ := X0.facts; have hB0 := below_trans (HA.out _) hb0) | (go_at_call 35; refine (rleaf_any _ _ _ (by omega) (by omega)).mono ?_; rintro e w' ⟨rfl, hw⟩; subst w'))
    go_ret2
    exact ⟨rfl, hB0⟩
  · have E := M.subE_yes hs
    by_cases hl : M.leafE h i = 0
    · obtain ⟨e1, e2⟩ := M.sh_yes hs hl
      rw [e1, e2, M.inS_doc hs h4 hl]
      clear e1 e2
      obtain ⟨l1, l2, _⟩ := M.leaf_facts h4 hl
      have l3 := M.ok_lt l2
      have l4 := (M.ok_of l2).2.2.1
      clear l2
      generalize M.p2 h + i = n at *
      cases ha : M.abv I n
      · go_enter Try.func14, Try.ntmps14
        go_wp2_with (first | (go_at_call 19; refine (rcheck8_any h I _ _ (by omega) (by omega) (by omega) (by omega)).mono ?_; rintro e w0 ⟨rfl, hb0⟩; have X0 := (Bi.new w 24 I _).below hb0; obtain ⟨X0a, X0b⟩ := X0.facts; have hB0 := below_trans (HA.out _) hb0) | (go_at_call 35; refine (rleaf_any _ _ _ (by omega) (by omega)).mono ?_; rintro e w' ⟨rfl, hw⟩; subst w') | (go_at_call 36; clear T1; refine (is_any I _ _ (by omega) (by omega)).mono ?_; rintro e w1 ⟨rfl, hb1⟩; have X1 := X0.below hb1; obtain ⟨X1a, X1b⟩ := X1.facts; have hB1 := below_trans hB0 hb1; clear X0a X0b))
        go_ret2
        exact ⟨rfl, hB1⟩
      · by_cases hJ : J = 0
        · subst hJ
          rw [decide_eq_true rfl]
          go_enter Try.func14, Try.ntmps14
          go_wp2_with (first | (go_at_call 19; refine (rcheck8_any h I _ _ (by omega) (by omega) (by omega) (by omega)).mono ?_; rintro e w0 ⟨rfl, hb0⟩; have X0 := (Bi.new w 24 I _).below hb0; obtain ⟨X0a, X0b⟩ := X0.facts; have hB0 := below_trans (HA.out _) hb0) | (go_at_call 35; refine (rleaf_any _ _ _ (by omega) (by omega)).mono ?_; rintro e w' ⟨rfl, hw⟩; subst w') | (go_at_call 36; clear T1; refine (is_any I _ _ (by omega) (by omega)).mono ?_; rintro e w1 ⟨rfl, hb1⟩; have X1 := X0.below hb1; obtain ⟨X1a, X1b⟩ := X1.facts; have hB1 := below_trans hB0 hb1; clear X0a X0b))
          go_ret2
          exact ⟨rfl, hB1⟩
        · rw [decide_eq_false hJ]
          have hJ' : (J == 0) = false := by rw [beq_eq_false_iff_ne]; exact hJ
          obtain ⟨r, hr⟩ : ∃ r, M.abv J n = r := ⟨_, rfl⟩
          rw [hr]
          go_enter Try.func14, Try.ntmps14
          go_wp2_with (first | (go_at_call 19; refine (rcheck8_any h I _ _ (by omega) (by omega) (by omega) (by omega)).mono ?_; rintro e w0 ⟨rfl, hb0⟩; have X0 := (Bi.new w 24 I _).below hb0; obtain ⟨X0a, X0b⟩ := X0.facts; have hB0 := below_trans (HA.out _) hb0) | (go_at_call 35; refine (rleaf_any _ _ _ (by omega) (by omega)).mono ?_; rintro e w' ⟨rfl, hw⟩; subst w') | (go_at_call 36; clear T1; refine (is_any I _ _ (by omega) (by omega)).mono ?_; rintro e w1 ⟨rfl, hb1⟩; have X1 := X0.below hb1; obtain ⟨X1a, X1b⟩ := X1.facts; have hB1 := below_trans hB0 hb1; clear X0a X0b) | (go_at_call 36; clear T2; refine (is_any J _ _ (by omega) (by omega)).mono ?_; rintro e w2 ⟨rfl, hb2⟩; have hB2 := below_trans hB1 hb2))
          go_ret2
          exact ⟨by simp, hB2⟩
    · obtain ⟨e1, e2⟩ := M.sh_no (h := h) (I := I) (J := J) (i := i) (fun hx => hl hx.2)
      rw [e1, e2]
      clear hs e1 e2
      go_enter Try.func14, Try.ntmps14
      go_wp2_with (first | (go_at_call 19; refine (rcheck8_any h I _ _ (by omega) (by omega) (by omega) (by omega)).mono ?_; rintro e w0 ⟨rfl, hb0⟩; have X0 := (Bi.new w 24 I _).below hb0; obtain ⟨X0a, X0b⟩ := X0.facts; have hB0 := below_trans (HA.out _) hb0) | (go_at_call 35; refine (rleaf_any _ _ _ (by omega) (by omega)).mono ?_; rintro e w' ⟨rfl, hw⟩; subst w'))
      go_ret2
      exact ⟨rfl, hB0⟩
end Go.Proofs.Ytnfobglaeaalfaa
