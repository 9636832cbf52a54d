/-
  What sub.spansOf, Leaves, cutOf, Useful and Split answer; subsets as elements of slices. Conditions: the numbers fit their kinds; of spansOf and cutOf: the subset may be.
-/
import Derived.Test.YtjaikcnfepbpgaaZA1
import Derived.Test.YtjaikcnfepbpgaaZQ1
namespace Go.Proofs.Ytjaikcnfepbpgaa
open Go.RowKit
def elSub : Elt Try.prog (Int × Int) where
  st := 24
  et := 36
  enc := fun x => [.int .u64 x.1, .int .u64 x.2]
  size := 2
  bytes := 16
  zero := .agg #[.int .u64 0, .int .u64 0]
  ok := fun x => 0 ≤ x.1 ∧ x.1 ≤ 18446744073709551615 ∧ 0 ≤ x.2 ∧ x.2 ≤ 18446744073709551615
  pos := by decide
  small := by decide
  len := fun _ => rfl
  one := by intro x u hu; simp at hu; rcases hu with rfl | rfl <;> rfl
  ht := Try.underlying24
  info := by kernel_rfl
  zs := rfl
abbrev Ss := Sl elSub
theorem Ss.one (w : World) (t : TypeId) (x y : Int) (h : 0 ≤ x ∧ x ≤ 18446744073709551615 ∧ 0 ≤ y ∧ y ≤ 18446744073709551615) : Ss (w.alloc (.cells #[.int .u64 x, .int .u64 y] t)) (.slice (some ⟨w.heap.size, 0, none⟩) 1 1) [(x, y)] := by
  refine ⟨_, _, rfl, by simp, by unfold maxLen; simp, by intro z hz; simp at hz; subst hz; exact h, fun _ => ⟨w.heap.size, 0, rfl, by simp, fun j hj => ?_⟩⟩
  rw [cell_at]
  match j, hj with
  | 0, _ => rfl
  | 1, _ => rfl
theorem Ss.two (w : World) (t : TypeId) (x y z u : Int) (h : 0 ≤ x ∧ x ≤ 18446744073709551615 ∧ 0 ≤ y ∧ y ≤ 18446744073709551615) (k : 0 ≤ z ∧ z ≤ 18446744073709551615 ∧ 0 ≤ u ∧ u ≤ 18446744073709551615) : Ss (w.alloc (.cells #[.int .u64 x, .int .u64 y, .int .u64 z, .int .u64 u] t)) (.slice (some ⟨w.heap.size, 0, none⟩) 2 2) [(x, y), (z, u)] := by
  refine ⟨_, _, rfl, by simp, by unfold maxLen; simp, by intro a ha; simp at ha; rcases ha with rfl | rfl; exact h; exact k, fun _ => ⟨w.heap.size, 0, rfl, by simp, fun j hj => ?_⟩⟩
  rw [cell_at]
  match j, hj with
  | 0, _ => rfl
  | 1, _ => rfl
  | 2, _ => rfl
  | 3, _ => rfl
theorem Ps.oneq (w : World) (x y : Int) (e : TypeId) (B : Nat) (hB : w.heap.size = B) (h0 : 0 ≤ x ∧ x ≤ 18446744073709551615 ∧ 0 ≤ y ∧ y ≤ 18446744073709551615) : Ps (w.alloc (.cells #[.int .u64 x, .int .u64 y] e)) (.slice (some ⟨B, 0, none⟩) 1 1) [(x, y)] := by subst hB; exact Ps.one w x y e h0
set_option maxRecDepth 100000 in
set_option maxHeartbeats 1000000 in
theorem spansOf_any (h I J : Int) (w : World) (hs : M.subB h I J = true) (h2 : 0 ≤ J) :
    Calls Try.prog 35 #[.int .i64 h, .agg #[.int .u64 I, .int .u64 J]] w fun e w' => ∃ v, e = .returned v ∧ Ps w' v (M.lvs h I J) ∧ Below w.heap.size w w' := by
  have HA := hidq (fun o => (Below.refl _ w).alloc (Nat.le_refl w.heap.size) o)
  have hI := (M.sub_of hs).1
  obtain ⟨b1, b2, b3⟩ := M.low_bd hI
  have hh := M.ok_of hI
  have p32 := M.p2_32 hh.2.1
  have ilt := M.ok_lt hI
  have i1 := hh.2.2.1
  have E1 := M.eChk_ok hI
  have L1 := M.lowV_ok hI
  have L2 := M.highV_ok hI
  have T1 := hid trivial
  have T2 := hid trivial
  by_cases hJ : J = 0
  · subst hJ
    have e : M.lvs h I 0 = [(M.low h I, M.high h I)] := by unfold M.lvs; rw [if_pos rfl]
    rw [e]
    clear e hs hI hh
    generalize M.low h I = a at *
    generalize M.high h I = b at *
    go_enter Try.func35, Try.ntmps35
    go_wp2_with (first | (go_at_call 41; (clear T1; refine (leaves_any _ _ _ (by omega) (by omega)).mono ?_; rintro e w1 ⟨rfl, hb1⟩; have X1 := (Bi.new w 36 _ _).below hb1; obtain ⟨X1fa, X1fb⟩ := X1.facts; obtain ⟨X1ha, X1hb⟩ := (X1.alloc (.cells #[.int .u64 a, .int .u64 b] 50)).facts; have hB1 := below_trans (HA.out _) hb1)))
    go_ret
    exact ⟨_, rfl, Ps.oneq _ a b _ _ (by simp) (by omega), below_one (below_one hB1)⟩
  · obtain ⟨g0, _, _, _, _, g1, g2, g3, g4⟩ := M.sub_in hs hJ
    have jlt := M.ok_lt g0
    have j1 := (M.ok_of g0).2.2.1
    have E2 := M.eChk_ok g0
    have L3 := M.lowV_ok g0
    have L4 := M.highV_ok g0
    have HF := hid (M.lvs_fit hs)
    have HL : Hid (M.lvs h I J = (if M.low h I < M.low h J then [(M.low h I, M.low h J - 1)] else []) ++ (if M.high h J < M.high h I then [(M.high h J + 1, M.high h I)] else [])) := by show _ = _; unfold M.lvs; rw [if_neg hJ]
    obtain ⟨i0, hi, hz0, hz1, hz2⟩ := info_parts Try.infoSpan
    clear hs hI hh g0
    generalize M.low h I = a at *
    generalize M.high h I = b at *
    generalize M.low h J = c at *
    generalize M.high h J = d at *
    by_cases c1 : a < c
    · rw [if_pos c1] at HL
      by_cases c2 : d < b
      · rw [if_pos c2] at HL
        rw [HL.out] at HF ⊢
        clear HL
        go_enter Try.func35, Try.ntmps35
        go_wp2_with (first | (go_at_call 41; (clear T1; refine (leaves_any _ _ _ (by omega) (by omega)).mono ?_; rintro e w1 ⟨rfl, hb1⟩; have X1 := (Bi.new w 36 _ _).below hb1; obtain ⟨X1fa, X1fb⟩ := X1.facts; obtain ⟨X1ha, X1hb⟩ := (X1.alloc (.cells #[.int .u64 a, .int .u64 b] 50)).facts; have hB1 := below_trans (HA.out _) hb1)) | (go_at_call 41; (clear T2; refine (leaves_any _ _ _ (by omega) (by omega)).mono ?_; rintro e w2 ⟨rfl, hb2⟩; have X2 := (Bi.new w1 50 a b).below hb2; obtain ⟨X2fa, X2fb⟩ := X2.facts; have hB2 := below_trans (below_one hB1) hb2; obtain ⟨X2ga, X2gb⟩ := (X2.alloc (.cells #[.int .u64 c, .int .u64 d] 50)).facts; have X3 := Bi.new w2 50 c d; obtain ⟨X3fa, X3fb⟩ := X3.facts; have hB3 := below_one (o := .cells #[.int .u64 c, .int .u64 d] 50) hB2)) | (at_builtin; clear X1 X1fa X1fb X1ha X1hb; (refine wpList_append_ps rfl _ _ 40 rfl w.heap.size 50 i0 Try.underlying40 hi hz0 hz1 hz2 _ _ [] rfl (World.ownsRow_nil _ _ _ _) _ [(a, c - 1)] rfl (Ps.oneq _ a (c - 1) _ _ (by first | rfl | simp) (by omega)) (by simp) (by have := hB3.size; (try simp); (try simp at this); omega) ?_; intro v3 w3 hown3 hgrow3; have hb3 := below_grown hgrow3 rfl; have X4 := ((X2.alloc (.cells #[.int .u64 c, .int .u64 d] 50)).alloc (.cells #[.int .u64 a, .int .u64 (c - 1)] 50)).below hb3; obtain ⟨X4fa, X4fb⟩ := X4.facts; have X5 := (X3.alloc (.cells #[.int .u64 a, .int .u64 (c - 1)] 50)).below hb3; obtain ⟨X5fa, X5fb⟩ := X5.facts; have hB4 := below_trans (below_one (o := .cells #[.int .u64 a, .int .u64 (c - 1)] 50) hB3) hb3; clear X2fa X2fb X2ga X2gb X3fa X3fb)) | (at_builtin; (refine wpList_append_ps rfl _ _ 40 rfl w.heap.size 50 i0 Try.underlying40 hi hz0 hz1 hz2 _ _ [(a, c - 1)] rfl (by first | exact hown3.alloc _ | exact hown3) _ [(d + 1, b)] rfl (Ps.oneq _ (d + 1) b _ _ (by first | rfl | simp) (by omega)) (by simp) (by have := hB4.size; (try simp); (try simp at this); omega) ?_; intro v5 w5 hown5 hgrow5)))
        go_ret
        exact ⟨_, rfl, Ps.of_own hown5 HF.out, (below_one hB4).grown hgrow5 (by have := hB4.size; (try simp); (try simp at this); omega) (fun q hq => (hown3.lt q hq).1)⟩
      · rw [if_neg c2] at HL
        rw [HL.out] at HF ⊢
        clear HL
        go_enter Try.func35, Try.ntmps35
        go_wp2_with (first | (go_at_call 41; (clear T1; refine (leaves_any _ _ _ (by omega) (by omega)).mono ?_; rintro e w1 ⟨rfl, hb1⟩; have X1 := (Bi.new w 36 _ _).below hb1; obtain ⟨X1fa, X1fb⟩ := X1.facts; obtain ⟨X1ha, X1hb⟩ := (X1.alloc (.cells #[.int .u64 a, .int .u64 b] 50)).facts; have hB1 := below_trans (HA.out _) hb1)) | (go_at_call 41; (clear T2; refine (leaves_any _ _ _ (by omega) (by omega)).mono ?_; rintro e w2 ⟨rfl, hb2⟩; have X2 := (Bi.new w1 50 a b).below hb2; obtain ⟨X2fa, X2fb⟩ := X2.facts; have hB2 := below_trans (below_one hB1) hb2; obtain ⟨X2ga, X2gb⟩ := (X2.alloc (.cells #[.int .u64 c, .int .u64 d] 50)).facts; have X3 := Bi.new w2 50 c d; obtain ⟨X3fa, X3fb⟩ := X3.facts; have hB3 := below_one (o := .cells #[.int .u64 c, .int .u64 d] 50) hB2)) | (at_builtin; clear X1 X1fa X1fb X1ha X1hb; (refine wpList_append_ps rfl _ _ 40 rfl w.heap.size 50 i0 Try.underlying40 hi hz0 hz1 hz2 _ _ [] rfl (World.ownsRow_nil _ _ _ _) _ [(a, c - 1)] rfl (Ps.oneq _ a (c - 1) _ _ (by first | rfl | simp) (by omega)) (by simp) (by have := hB3.size; (try simp); (try simp at this); omega) ?_; intro v3 w3 hown3 hgrow3; have hb3 := below_grown hgrow3 rfl; have X4 := ((X2.alloc (.cells #[.int .u64 c, .int .u64 d] 50)).alloc (.cells #[.int .u64 a, .int .u64 (c - 1)] 50)).below hb3; obtain ⟨X4fa, X4fb⟩ := X4.facts; have X5 := (X3.alloc (.cells #[.int .u64 a, .int .u64 (c - 1)] 50)).below hb3; obtain ⟨X5fa, X5fb⟩ := X5.facts; have hB4 := below_trans (below_one (o := .cells #[.int .u64 a, .int .u64 (c - 1)] 50) hB3) hb3; clear X2fa X2fb X2ga X2gb X3fa X3fb)))
        go_ret
        exact ⟨_, rfl, Ps.of_own hown3 HF.out, hB4⟩
    · have c2 : d < b := by omega
      rw [if_neg c1, if_pos c2] at HL
      rw [HL.out] at HF ⊢
      clear HL
      go_enter Try.func35, Try.ntmps35
      go_wp2_with (first | (go_at_call 41; (clear T1; refine (leaves_any _ _ _ (by omega) (by omega)).mono ?_; rintro e w1 ⟨rfl, hb1⟩; have X1 := (Bi.new w 36 _ _).below hb1; obtain ⟨X1fa, X1fb⟩ := X1.facts; obtain ⟨X1ha, X1hb⟩ := (X1.alloc (.cells #[.int .u64 a, .int .u64 b] 50)).facts; have hB1 := below_trans (HA.out _) hb1)) | (go_at_call 41; (clear T2; refine (leaves_any _ _ _ (by omega) (by omega)).mono ?_; rintro e w2 ⟨rfl, hb2⟩; have X2 := (Bi.new w1 50 a b).below hb2; obtain ⟨X2fa, X2fb⟩ := X2.facts; have hB2 := below_trans (below_one hB1) hb2; obtain ⟨X2ga, X2gb⟩ := (X2.alloc (.cells #[.int .u64 c, .int .u64 d] 50)).facts; have X3 := Bi.new w2 50 c d; obtain ⟨X3fa, X3fb⟩ := X3.facts; have hB3 := below_one (o := .cells #[.int .u64 c, .int .u64 d] 50) hB2)) | (at_builtin; clear X1 X1fa X1fb X1ha X1hb; (refine wpList_append_ps rfl _ _ 40 rfl w.heap.size 50 i0 Try.underlying40 hi hz0 hz1 hz2 _ _ [] rfl (World.ownsRow_nil _ _ _ _) _ [(d + 1, b)] rfl (Ps.oneq _ (d + 1) b _ _ (by first | rfl | simp) (by omega)) (by simp) (by have := hB3.size; (try simp); (try simp at this); omega) ?_; intro v3 w3 hown3 hgrow3; have hb3 := below_grown hgrow3 rfl; have hB4 := below_trans (below_one (o := .cells #[.int .u64 (d + 1), .int .u64 b] 50) hB3) hb3)))
      go_ret
      exact ⟨_, rfl, Ps.of_own hown3 HF.out, hB4⟩
theorem M.subE_yes {h I J : Int} (hs : M.subB h I J = true) : M.subE h I J = 0 := by unfold M.subE; rw [hs]; rfl
theorem M.subE_no {h I J : Int} (hs : M.subB h I J = false) : M.subE h I J = 1 := by unfold M.subE; rw [hs]; rfl
set_option maxRecDepth 100000 in
set_option maxHeartbeats 400000 in
theorem leaves8_no (h I J : Int) (w : World) (hs : M.subB h I J = false) (h0 : 0 ≤ I) (h1 : I ≤ 18446744073709551615) (h2 : 0 ≤ J) (h3 : J ≤ 18446744073709551615) :
    Calls Try.prog 18 #[.int .i64 h, .agg #[.int .u64 I, .int .u64 J]] w fun e w' => e = .returned (.tuple #[.slice none 0 0, .int .i64 1]) ∧ Below w.heap.size w w' := by
  have HA := hidq (fun o => (Below.refl _ w).alloc (Nat.le_refl w.heap.size) o)
  have E := M.subE_no hs
  clear hs
  go_enter Try.func18, Try.ntmps18
  go_wp2_with (first | (go_at_call 32; refine (check8_any h I J _ (by omega) (by omega) (by omega) (by omega)).mono ?_; rintro e w1 ⟨rfl, hb1⟩; have X1 := (Bi.new w 36 I J).below hb1; obtain ⟨X1a, X1b⟩ := X1.facts; have hB1 := below_trans (HA.out _) hb1))
  go_ret2
  exact ⟨rfl, hB1⟩
set_option maxRecDepth 100000 in
set_option maxHeartbeats 400000 in
theorem leaves8_yes (h I J : Int) (w : World) (hs : M.subB h I J = true) (h0 : 0 ≤ I) (h1 : I ≤ 18446744073709551615) (h2 : 0 ≤ J) (h3 : J ≤ 18446744073709551615) :
    Calls Try.prog 18 #[.int .i64 h, .agg #[.int .u64 I, .int .u64 J]] w fun e w' => ∃ v, e = .returned (.tuple #[v, .int .i64 0]) ∧ Ps w' v (M.lvs h I J) ∧ Below w.heap.size w w' := by
  have HA := hidq (fun o => (Below.refl _ w).alloc (Nat.le_refl w.heap.size) o)
  have E := M.subE_yes hs
  go_enter Try.func18, Try.ntmps18
  go_wp2_with (first | (go_at_call 32; refine (check8_any h I J _ (by omega) (by omega) (by omega) (by omega)).mono ?_; rintro e w1 ⟨rfl, hb1⟩; have X1 := (Bi.new w 36 I J).below hb1; obtain ⟨X1a, X1b⟩ := X1.facts; have hB1 := below_trans (HA.out _) hb1) | (go_at_call 35; refine (spansOf_any h I J _ hs (by omega)).mono ?_; rintro e w2 ⟨v, rfl, hp2, hb2⟩))
  go_ret2
  exact ⟨_, rfl, hp2, below_trans hB1 hb2⟩
theorem tdiv_pos' {d s : Int} (hd : 0 ≤ d) : d.tdiv s = d / s := Int.tdiv_eq_ediv_of_nonneg hd
theorem tmod_pos' {d s : Int} (hd : 0 ≤ d) : d.tmod s = d % s := Int.tmod_eq_emod_of_nonneg hd
theorem M.useV_no {h I J : Int} (hs : M.subB h I J = false) : M.useV h I J = false := by unfold M.useV; rw [hs]; rfl
theorem Ss.oneq (w : World) (t : TypeId) (x y : Int) (B : Nat) (hB : w.heap.size = B) (h : 0 ≤ x ∧ x ≤ 18446744073709551615 ∧ 0 ≤ y ∧ y ≤ 18446744073709551615) : Ss (w.alloc (.cells #[.int .u64 x, .int .u64 y] t)) (.slice (some ⟨B, 0, none⟩) 1 1) [(x, y)] := by subst hB; exact Ss.one w t x y h
theorem Ss.twoq (w : World) (t : TypeId) (x y z u : Int) (B : Nat) (hB : w.heap.size = B) (h : 0 ≤ x ∧ x ≤ 18446744073709551615 ∧ 0 ≤ y ∧ y ≤ 18446744073709551615) (k : 0 ≤ z ∧ z ≤ 18446744073709551615 ∧ 0 ≤ u ∧ u ≤ 18446744073709551615) : Ss (w.alloc (.cells #[.int .u64 x, .int .u64 y, .int .u64 z, .int .u64 u] t)) (.slice (some ⟨B, 0, none⟩) 2 2) [(x, y), (z, u)] := by subst hB; exact Ss.two w t x y z u h k
end Go.Proofs.Ytjaikcnfepbpgaa
