/-
  Package label: the parts of a subset's label, and what one comes to from a value, part by part. Conditions: each theorem's own premises.
-/
import Derived.Test.YthmiekinjfaflaaGreatZLD0
import Derived.Test.YthmiekinjfaflaaGreatZNX
import Derived.Test.YthmiekinjfaflaaGreatZTR
import Derived.Test.YthmiekinjfaflaaGreatZU5
namespace Go.Proofs.YthmiekinjfaflaaGreat
open Go.RowKit
set_option maxRecDepth 100000 in
theorem npath_own (h a b : Int) {S : List Int} (hS : M.pathL a b = S) (w : World) (hka : M.okB h a = true) (hkb : M.okB h b = true) (hab : M.abv a b = true) :
    Calls Tryz.prog 71 #[.int .i64 h, .int .u64 a, .int .u64 b] w fun e w' => ∃ v, e = .returned (.tuple #[v, .int .i64 0]) ∧ w'.ownsRow w.heap.size 3 1 v S.length (elInt.cells S) ∧ Below w.heap.size w w' := by
  subst hS
  refine (path_yes h a b w hka hkb hab).mono fun _ _ ⟨h1, h2, h3⟩ => ⟨_, h1, ?_, h3⟩
  rw [ints_cells] at h2
  exact h2
set_option maxRecDepth 100000 in
theorem own_more {W : World} {B : Nat} {v : Value} {P S : List Int} (h : W.ownsRow B 3 1 v (P.length + S.length) (elInt.cells (P ++ S))) : W.ownsRow B 3 1 v (P ++ S).length (elInt.cells (P ++ S)) := by
  rw [List.length_append]; exact h
set_option maxRecDepth 100000 in
theorem own_is {W : World} {B : Nat} {v : Value} {S : List Int} (h : W.ownsRow B 3 1 v S.length (elInt.cells S)) (h3 : M.Opn3 S) : Is W v S :=
  Sl.of_own (E := elInt) h fun s hs => by have := h3 s hs; exact ⟨by omega, by omega⟩
theorem Bx9.place {W : World} {B : Nat} {l : Bool} {b : M.Blk} {q : M.Sea} {t : Int} (h : Bx9 W B (true, l, b, q, t)) (i : Int) : Bx9 (W.setCell ⟨B, 8, none⟩ (.int .i64 i)) B (true, l, b, q, i) := by
  have h0 := Go.heap_setCell_same W B 8 _ _ (.int .i64 i) h
  unfold Bx9
  rw [h0]
  simp
set_option maxRecDepth 100000 in
set_option maxHeartbeats 8000000 in
theorem tolab_eq {h I J : Int} (hs : M.subB h I J = true) (w : World) :
    Calls Tryz.prog 51 #[.int .i64 h, .agg #[.int .u64 I, .int .u64 J]] w fun e w' => ∃ v', e = .returned v' ∧ w'.ownsRow w.heap.size 3 1 v' (M.labW I J).length (elInt.cells (M.labW I J)) ∧ Below w.heap.size w w' := by
  have hI := (M.sub_of hs).1
  obtain ⟨k1, k2, k3, k4⟩ := M.ok_of hI
  have K1 := hidq (M.ok_mk k1 k2 (Int.le_refl 1) (by have := M.p2_pos h; omega) : M.okB h 1 = true)
  have KA := hidq (M.abv_root k3)
  have KI := hidq hI
  have X0 := hidq (Bi.new w 46 I J)
  have B0 := hidq (below_one (o := (.cells #[.int .u64 I, .int .u64 J] 46)) (Below.refl w.heap.size w))
  have x0 := X0.out.facts
  obtain ⟨P, hP⟩ : ∃ P, M.pathL 1 I = P := ⟨_, rfl⟩
  have HS := hidq (show P.length ≤ 32 from hP ▸ M.path_few hI)
  have HP := hidq hP
  have T1 := hidq trivial
  have T2 := hidq trivial
  clear k1 k2 k3 k4
  by_cases h0 : J = 0
  · subst h0
    rw [M.labW_zero, hP]
    clear hI hP hs
    go_enter Tryz.func51, Tryz.ntmps51
    go_wp2_with (first | (go_at_call 71; clear T1; refine (npath_own h 1 I HP.out _ K1.out KI.out KA.out).mono ?_; rintro e w1 ⟨v1, rfl, o1, hb1⟩; obtain ⟨a1, p1, rfl, -⟩ := own_formq o1; have O1 := hidq (own_lowerq o1 (show w.heap.size + 1 ≤ (w.alloc (.cells #[.int .u64 I, .int .u64 0] 46)).heap.size by simp)); have Y1 := X0.out.below hb1; have y1 := Y1.facts; have X1 := hidq (Y1.alloc (.cells #[.int .i64 2] 3)); have L1 := hidq (show w.heap.size + 1 ≤ w1.heap.size from by have := Y1.lt; omega); have B1 := hidq (below_trans B0.out hb1); clear o1 hb1 Y1) | (at_builtin; clear T2; refine wpList_append_sl (E := elInt) rfl _ _ rfl (w.heap.size + 1) _ P.length P rfl (own_keptq O1.out (below_one (o := (.cells #[.int .i64 2] 3)) (Below.refl w1.heap.size w1))) _ [2] rfl (Is.oneg w1 2 _ (by first | rfl | simp) ⟨by decide, by decide⟩) (by have := HS.out; simp only [List.length_cons, List.length_nil]; omega) (by have := X0.out.lt; have := L1.out; simp; omega) ?_; intro v2 w2 hown2 hgrow2; obtain ⟨a2, p2, rfl, -⟩ := own_formq hown2; have O2 := hidq (show w2.ownsRow (w.heap.size + 1) 3 1 (.slice a2 (P.length + 1) p2) (P ++ [2]).length (elInt.cells (P ++ [2])) from own_more hown2); have B2 := hidq ((below_one (o := (.cells #[.int .i64 2] 3)) B1.out).grown hgrow2 (by have := B1.out.size; simp; omega) (fun q hq => by have := (O1.out.lt q hq).1; omega)); have H2 := ((Below.refl (w.heap.size + 1) (w1.alloc (.cells #[.int .i64 2] 3))).grown hgrow2 (by have := L1.out; simp; omega) (fun q hq => (O1.out.lt q hq).1)); have Z2 : Bi w2 w.heap.size 46 I 0 := (H2.block w.heap.size (by omega)).trans X1.out; have x2 := Z2.facts; have G2 := hidq (show w.heap.size + 1 ≤ w2.heap.size from by have := Z2.lt; omega); clear H2; clear hown2 hgrow2))
    go_ret
    exact ⟨_, rfl, own_lowerq O2.out (Nat.le_succ _), B2.out⟩
  · obtain ⟨j1, j2, -⟩ := M.sub_in hs h0
    have KJ := hidq j1
    have KB := hidq j2
    have hj : (J == 0) = false := beq_eq_false_iff_ne.2 h0
    obtain ⟨Q, hQ⟩ : ∃ Q, M.pathL I J = Q := ⟨_, rfl⟩
    have HR := hidq (show Q.length ≤ 32 from hQ ▸ M.path_few j1)
    have HQ := hidq hQ
    rw [M.labW_more h0, hP, hQ]
    clear hI hP hQ hs j1 j2 h0
    go_enter Tryz.func51, Tryz.ntmps51
    go_wp2_with (first | (go_at_call 71; clear T1; refine (npath_own h 1 I HP.out _ K1.out KI.out KA.out).mono ?_; rintro e w1 ⟨v1, rfl, o1, hb1⟩; obtain ⟨a1, p1, rfl, -⟩ := own_formq o1; have O1 := hidq (own_lowerq o1 (show w.heap.size + 1 ≤ (w.alloc (.cells #[.int .u64 I, .int .u64 J] 46)).heap.size by simp)); have Y1 := X0.out.below hb1; have y1 := Y1.facts; have X1 := hidq (Y1.alloc (.cells #[.int .i64 2] 3)); have L1 := hidq (show w.heap.size + 1 ≤ w1.heap.size from by have := Y1.lt; omega); have B1 := hidq (below_trans B0.out hb1); clear o1 hb1 Y1) | (at_builtin; clear T2; refine wpList_append_sl (E := elInt) rfl _ _ rfl (w.heap.size + 1) _ P.length P rfl (own_keptq O1.out (below_one (o := (.cells #[.int .i64 2] 3)) (Below.refl w1.heap.size w1))) _ [2] rfl (Is.oneg w1 2 _ (by first | rfl | simp) ⟨by decide, by decide⟩) (by have := HS.out; simp only [List.length_cons, List.length_nil]; omega) (by have := X0.out.lt; have := L1.out; simp; omega) ?_; intro v2 w2 hown2 hgrow2; obtain ⟨a2, p2, rfl, -⟩ := own_formq hown2; have O2 := hidq (show w2.ownsRow (w.heap.size + 1) 3 1 (.slice a2 (P.length + 1) p2) (P ++ [2]).length (elInt.cells (P ++ [2])) from own_more hown2); have B2 := hidq ((below_one (o := (.cells #[.int .i64 2] 3)) B1.out).grown hgrow2 (by have := B1.out.size; simp; omega) (fun q hq => by have := (O1.out.lt q hq).1; omega)); have H2 := ((Below.refl (w.heap.size + 1) (w1.alloc (.cells #[.int .i64 2] 3))).grown hgrow2 (by have := L1.out; simp; omega) (fun q hq => (O1.out.lt q hq).1)); have Z2 : Bi w2 w.heap.size 46 I J := (H2.block w.heap.size (by omega)).trans X1.out; have x2 := Z2.facts; have G2 := hidq (show w.heap.size + 1 ≤ w2.heap.size from by have := Z2.lt; omega); clear H2; clear hown2 hgrow2) | (go_at_call 71; refine (npath_own h I J HQ.out _ KI.out KJ.out KB.out).mono ?_; rintro e w3 ⟨v3, rfl, o3, hb3⟩; obtain ⟨a3, p3, rfl, -⟩ := own_formq o3; have O3 := hidq o3; have P3 := hidq (own_keptq O2.out hb3); have G3 := hidq (show w.heap.size + 1 ≤ w3.heap.size from by have := hb3.size; have := G2.out; omega); have B3 := hidq (below_trans B2.out hb3); clear o3 hb3) | (at_builtin; refine wpList_append_sl (E := elInt) rfl _ _ rfl (w.heap.size + 1) _ _ (P ++ [2]) rfl P3.out _ Q rfl (own_is O3.out (HQ.out ▸ M.opn3_path)) (by have := HS.out; have := HR.out; simp only [List.length_append, List.length_cons, List.length_nil]; omega) G3.out ?_; intro v4 w4 hown4 hgrow4; obtain ⟨a4, p4, rfl, -⟩ := own_formq hown4; have O4 := hidq (own_more hown4); have B4 := hidq (B3.out.grown hgrow4 B3.out.size (fun q hq => by have := (P3.out.lt q hq).1; omega)); clear hown4 hgrow4))
    go_ret
    exact ⟨_, rfl, by
      have hh := own_lowerq O4.out (Nat.le_succ _)
      rw [@List.length_append Int P [2]] at hh
      exact hh, B4.out⟩
set_option maxRecDepth 100000 in
set_option maxHeartbeats 8000000 in
theorem lbyp_no {A : List M.Tm} {v : M.Val} (h : ¬ M.opn A v = true) {vl vs : Value} (w : World) (u : Ts w vl A) :
    Calls Tryz.prog 52 #[vl, (.agg #[.bool v.1, .bool v.2.1, .int .u64 (M.nu v.2.2.1.1), .int .u64 (M.nu v.2.2.1.2), .int .u64 (M.nu v.2.2.2.1.1.1), .int .u64 (M.nu v.2.2.2.1.1.2), .int .u64 (M.nu v.2.2.2.1.2.1), .int .u64 (M.nu v.2.2.2.1.2.2), .int .i64 v.2.2.2.2]), vs] w fun e w' => ∃ v', e = .returned (.tuple #[(.agg #[.bool M.zV.1, .bool M.zV.2.1, .int .u64 (M.nu M.zV.2.2.1.1), .int .u64 (M.nu M.zV.2.2.1.2), .int .u64 (M.nu M.zV.2.2.2.1.1.1), .int .u64 (M.nu M.zV.2.2.2.1.1.2), .int .u64 (M.nu M.zV.2.2.2.1.2.1), .int .u64 (M.nu M.zV.2.2.2.1.2.2), .int .i64 M.zV.2.2.2.2]), v', .int .i64 1]) ∧ w'.ownsRow w.heap.size 39 3 v' 0 (elTm.cells []) ∧ Below w.heap.size w w' := by
  rw [zV_eq]
  have Z0 := hidq (zbox (w.alloc (.cells #[.bool v.1, .bool v.2.1, .int .u64 (M.nu v.2.2.1.1), .int .u64 (M.nu v.2.2.1.2), .int .u64 (M.nu v.2.2.2.1.1.1), .int .u64 (M.nu v.2.2.2.1.1.2), .int .u64 (M.nu v.2.2.2.1.2.1), .int .u64 (M.nu v.2.2.2.1.2.2), .int .i64 v.2.2.2.2] 29)))
  rw [World.size_alloc] at Z0
  have X0 := hidq ((Bx9.new w v).alloc (.cells #[.bool false, .bool false, .int .u64 0, .int .u64 0, .int .u64 0, .int .u64 0, .int .u64 0, .int .u64 0, .int .i64 0] 29))
  have U0 := hidq ((u.alloc (.cells #[.bool v.1, .bool v.2.1, .int .u64 (M.nu v.2.2.1.1), .int .u64 (M.nu v.2.2.1.2), .int .u64 (M.nu v.2.2.2.1.1.1), .int .u64 (M.nu v.2.2.2.1.1.2), .int .u64 (M.nu v.2.2.2.1.2.1), .int .u64 (M.nu v.2.2.2.1.2.2), .int .i64 v.2.2.2.2] 29)).alloc (.cells #[.bool false, .bool false, .int .u64 0, .int .u64 0, .int .u64 0, .int .u64 0, .int .u64 0, .int .u64 0, .int .i64 0] 29))
  have B0 := hidq (show Below w.heap.size w ((w.alloc (.cells #[.bool v.1, .bool v.2.1, .int .u64 (M.nu v.2.2.1.1), .int .u64 (M.nu v.2.2.1.2), .int .u64 (M.nu v.2.2.2.1.1.1), .int .u64 (M.nu v.2.2.2.1.1.2), .int .u64 (M.nu v.2.2.2.1.2.1), .int .u64 (M.nu v.2.2.2.1.2.2), .int .i64 v.2.2.2.2] 29)).alloc (.cells #[.bool false, .bool false, .int .u64 0, .int .u64 0, .int .u64 0, .int .u64 0, .int .u64 0, .int .u64 0, .int .i64 0] 29)) from below_one (below_one (Below.refl _ _)))
  clear u
  by_cases hc : M.chkV A v = 0
  · have HC := hidq (fun W (u : Ts W vl A) => check7_eq hc W u)
    have hs : M.sld A v = true := by
      rw [opn_chk hc] at h
      cases hs : M.sld A v with
      | true => rfl
      | false => rw [hs] at h; exact absurd rfl h
    have hv := (M.mb_iff.1 (M.chk0.1 hc).2).2
    have SC := hidq (fun W (u : Ts W vl A) => lsealed_eq hs hv W u)
    clear h hc hs hv
    obtain ⟨s, l, b, q, t⟩ := v
    dsimp only at X0 U0 B0 Z0 SC HC ⊢
    go_enter Tryz.func52, Tryz.ntmps52
    go_wp2_with (first | (go_at_call 72; refine (HC.out _ U0.out).mono ?_; rintro e w1 ⟨rfl, hb1⟩; have XW := Z0.out.below hb1; obtain ⟨c0, c1, c2, c3, c4, c5, c6, c7, c8⟩ := XW.cells; obtain ⟨f0, f1, f2, f3, f4, f5, f6, f7, f8⟩ := XW.frozen; have XV := X0.out.below hb1; obtain ⟨d0, d1, d2, d3, d4, d5, d6, d7, d8⟩ := XV.cells; obtain ⟨h0, h1, h2, h3, h4, h5, h6, h7, h8⟩ := XV.frozen; have Z1 := hidq XW; have X1 := hidq XV; have U1 := hidq (U0.out.below hb1); have B1 := hidq (below_trans B0.out hb1); clear hb1 XW XV) | (go_at_call 73; refine (SC.out _ U1.out).mono ?_; rintro e w2 ⟨rfl, hb2⟩; clear c0 c1 c2 c3 c4 c5 c6 c7 c8 f0 f1 f2 f3 f4 f5 f6 f7 f8 d0 d1 d2 d3 d4 d5 d6 d7 d8 h0 h1 h2 h3 h4 h5 h6 h7 h8; have XW := Z1.out.below hb2; obtain ⟨c0, c1, c2, c3, c4, c5, c6, c7, c8⟩ := XW.cells; obtain ⟨f0, f1, f2, f3, f4, f5, f6, f7, f8⟩ := XW.frozen; have XV := X1.out.below hb2; obtain ⟨d0, d1, d2, d3, d4, d5, d6, d7, d8⟩ := XV.cells; obtain ⟨h0, h1, h2, h3, h4, h5, h6, h7, h8⟩ := XV.frozen; have Z2 := hidq XW; have X2 := hidq XV; have U2 := hidq (U1.out.below hb2); have B2 := hidq (below_trans B1.out hb2); clear hb2 XW XV))
    refine bodyPost_ret (v := .tuple #[.agg #[.bool _, .bool _, .int .u64 _, .int .u64 _, .int .u64 _, .int .u64 _, .int .u64 _, .int .u64 _, .int .i64 _], _, .int .i64 _]) (by simp [results, go_sem, c0, c1, c2, c3, c4, c5, c6, c7, c8, Tryz.results52]) rfl ⟨_, rfl, World.ownsRow_nil _ _ _ _, below_set9 B2.out (by omega) _ _ _ _ _ _ _ _ _⟩
  · have HC := hidq (fun W (u : Ts W vl A) => check7_eq (chk_one hc) W u)
    clear h hc
    go_enter Tryz.func52, Tryz.ntmps52
    go_wp2_with (first | (go_at_call 72; refine (HC.out _ U0.out).mono ?_; rintro e w1 ⟨rfl, hb1⟩; have XW := Z0.out.below hb1; obtain ⟨c0, c1, c2, c3, c4, c5, c6, c7, c8⟩ := XW.cells; obtain ⟨f0, f1, f2, f3, f4, f5, f6, f7, f8⟩ := XW.frozen; have XV := X0.out.below hb1; obtain ⟨d0, d1, d2, d3, d4, d5, d6, d7, d8⟩ := XV.cells; obtain ⟨h0, h1, h2, h3, h4, h5, h6, h7, h8⟩ := XV.frozen; have Z1 := hidq XW; have X1 := hidq XV; have U1 := hidq (U0.out.below hb1); have B1 := hidq (below_trans B0.out hb1); clear hb1 XW XV))
    refine bodyPost_ret (v := .tuple #[.agg #[.bool _, .bool _, .int .u64 _, .int .u64 _, .int .u64 _, .int .u64 _, .int .u64 _, .int .u64 _, .int .i64 _], _, .int .i64 _]) (by simp [results, go_sem, c0, c1, c2, c3, c4, c5, c6, c7, c8, Tryz.results52]) rfl ⟨_, rfl, World.ownsRow_nil _ _ _ _, below_set9 B1.out (by omega) _ _ _ _ _ _ _ _ _⟩
set_option maxRecDepth 100000 in
set_option maxHeartbeats 8000000 in
theorem lbyp_yes {A : List M.Tm} {v : M.Val} {S : List Int} (ho : M.opn A v = true) (h3 : M.Opn3 S) {x : M.Val} {L : List M.Tm} {n : Int} (h : M.wkR S A v = (x, L, n)) {vl vs : Value} (w : World) (u : Ts w vl A) (us : Is w vs S) :
    Calls Tryz.prog 52 #[vl, (.agg #[.bool v.1, .bool v.2.1, .int .u64 (M.nu v.2.2.1.1), .int .u64 (M.nu v.2.2.1.2), .int .u64 (M.nu v.2.2.2.1.1.1), .int .u64 (M.nu v.2.2.2.1.1.2), .int .u64 (M.nu v.2.2.2.1.2.1), .int .u64 (M.nu v.2.2.2.1.2.2), .int .i64 v.2.2.2.2]), vs] w fun e w' => ∃ v', e = .returned (.tuple #[(.agg #[.bool x.1, .bool x.2.1, .int .u64 (M.nu x.2.2.1.1), .int .u64 (M.nu x.2.2.1.2), .int .u64 (M.nu x.2.2.2.1.1.1), .int .u64 (M.nu x.2.2.2.1.1.2), .int .u64 (M.nu x.2.2.2.1.2.1), .int .u64 (M.nu x.2.2.2.1.2.2), .int .i64 x.2.2.2.2]), v', .int .i64 n]) ∧ w'.ownsRow w.heap.size 39 3 v' L.length (elTm.cells L) ∧ Below w.heap.size w w' := by
  obtain ⟨hA, hm, hl⟩ := M.opn_iff.1 ho
  have hc : M.chkV A v = 0 := M.chk0.2 ⟨hA, hm⟩
  have HC := hidq (fun W (u : Ts W vl A) => check7_eq hc W u)
  have hv := (M.mb_iff.1 hm).2
  have SC := hidq (fun W (u : Ts W vl A) => lsealed_eq hl hv W u)
  have Z0 := hidq (zbox (w.alloc (.cells #[.bool v.1, .bool v.2.1, .int .u64 (M.nu v.2.2.1.1), .int .u64 (M.nu v.2.2.1.2), .int .u64 (M.nu v.2.2.2.1.1.1), .int .u64 (M.nu v.2.2.2.1.1.2), .int .u64 (M.nu v.2.2.2.1.2.1), .int .u64 (M.nu v.2.2.2.1.2.2), .int .i64 v.2.2.2.2] 29)))
  rw [World.size_alloc] at Z0
  have X0 := hidq ((Bx9.new w v).alloc (.cells #[.bool false, .bool false, .int .u64 0, .int .u64 0, .int .u64 0, .int .u64 0, .int .u64 0, .int .u64 0, .int .i64 0] 29))
  have U0 := hidq ((u.alloc (.cells #[.bool v.1, .bool v.2.1, .int .u64 (M.nu v.2.2.1.1), .int .u64 (M.nu v.2.2.1.2), .int .u64 (M.nu v.2.2.2.1.1.1), .int .u64 (M.nu v.2.2.2.1.1.2), .int .u64 (M.nu v.2.2.2.1.2.1), .int .u64 (M.nu v.2.2.2.1.2.2), .int .i64 v.2.2.2.2] 29)).alloc (.cells #[.bool false, .bool false, .int .u64 0, .int .u64 0, .int .u64 0, .int .u64 0, .int .u64 0, .int .u64 0, .int .i64 0] 29))
  have B0 := hidq (show Below w.heap.size w ((w.alloc (.cells #[.bool v.1, .bool v.2.1, .int .u64 (M.nu v.2.2.1.1), .int .u64 (M.nu v.2.2.1.2), .int .u64 (M.nu v.2.2.2.1.1.1), .int .u64 (M.nu v.2.2.2.1.1.2), .int .u64 (M.nu v.2.2.2.1.2.1), .int .u64 (M.nu v.2.2.2.1.2.2), .int .i64 v.2.2.2.2] 29)).alloc (.cells #[.bool false, .bool false, .int .u64 0, .int .u64 0, .int .u64 0, .int .u64 0, .int .u64 0, .int .u64 0, .int .i64 0] 29)) from below_one (below_one (Below.refl _ _)))
  have US := hidq u
  have IS := hidq us
  have HA := hidq hA.1
  have H3 := hidq h3
  obtain ⟨al, cl, rfl, -, -, -⟩ := u.form
  clear u hA hm hl hc hv h3
  cases hv1 : v.1 with
  | false =>
    have HH := hidq h
    have HOp := hidq ho
    have H3T := hidq H3.out
    have IST := hidq us
    obtain ⟨as_, cs, rfl, q1, q2, q3⟩ := us.form
    have hm : S.length ≤ maxLen := by omega
    unfold maxLen at hm
    have HPs := hidq q3
    clear us q3 h ho
    obtain ⟨s, l, b, q, t⟩ := v
    obtain rfl : s = false := hv1
    dsimp only at X0 U0 B0 Z0 SC HC HH HOp ⊢
    generalize hN : S.length = N at *
    have HN := hidq hN
    clear hN
    go_enter Tryz.func52, Tryz.ntmps52
    go_wp2_with (first | (go_at_call 72; refine (HC.out _ U0.out).mono ?_; rintro e w1 ⟨rfl, hb1⟩; have XW := Z0.out.below hb1; obtain ⟨c0, c1, c2, c3, c4, c5, c6, c7, c8⟩ := XW.cells; obtain ⟨f0, f1, f2, f3, f4, f5, f6, f7, f8⟩ := XW.frozen; have XV := X0.out.below hb1; obtain ⟨d0, d1, d2, d3, d4, d5, d6, d7, d8⟩ := XV.cells; obtain ⟨h0, h1, h2, h3, h4, h5, h6, h7, h8⟩ := XV.frozen; have Z1 := hidq XW; have X1 := hidq XV; have U1 := hidq (U0.out.below hb1); have B1 := hidq (below_trans B0.out hb1); clear hb1 XW XV) | (go_at_call 73; refine (SC.out _ U1.out).mono ?_; rintro e w2 ⟨rfl, hb2⟩; clear c0 c1 c2 c3 c4 c5 c6 c7 c8 f0 f1 f2 f3 f4 f5 f6 f7 f8 d0 d1 d2 d3 d4 d5 d6 d7 d8 h0 h1 h2 h3 h4 h5 h6 h7 h8; have XW := Z1.out.below hb2; obtain ⟨c0, c1, c2, c3, c4, c5, c6, c7, c8⟩ := XW.cells; obtain ⟨f0, f1, f2, f3, f4, f5, f6, f7, f8⟩ := XW.frozen; have XV := X1.out.below hb2; obtain ⟨d0, d1, d2, d3, d4, d5, d6, d7, d8⟩ := XV.cells; obtain ⟨h0, h1, h2, h3, h4, h5, h6, h7, h8⟩ := XV.frozen; have Z2 := hidq XW; have X2 := hidq XV; have U2 := hidq (U1.out.below hb2); have B2 := hidq (below_trans B1.out hb2); clear hb2 XW XV) | (go_at_call 18; refine (cloneT_any A HA.out _ _ (US.out.below B2.out)).mono ?_; rintro e w4 ⟨v4, rfl, o4, hb4⟩; have O4 := hidq (own_lowerq o4 (show w.heap.size + 2 ≤ _ from by have := Z2.out.lt; omega)); have Z4 := hidq (Z2.out.below hb4); have X4 := hidq (X2.out.below hb4); have B4 := hidq (below_trans B2.out hb4); clear hb4 o4 c0 c1 c2 c3 c4 c5 c6 c7 c8 f0 f1 f2 f3 f4 f5 f6 f7 f8 d0 d1 d2 d3 d4 d5 d6 d7 d8 h0 h1 h2 h3 h4 h5 h6 h7 h8))
    obtain ⟨wy, hwy⟩ : ∃ wy, wy = w4 := ⟨_, rfl⟩
    subst hwy
    go_loopw [38, 9] (fun ii s wr => ∃ (k : Nat) (B : List M.Tm) (z : M.Val), k ≤ N ∧ ii = .int .i64 k ∧ M.wkR (S.take k) A (false, l, b, q, t) = (z, B, 0) ∧ wr.ownsRow (w.heap.size + 2) 39 3 s B.length (elTm.cells B) ∧ Bx9 wr w.heap.size z ∧ Bx9 wr (w.heap.size + 1) M.zV ∧ Below w.heap.size w wr) (fun ii _ _ => N - (intOf ii).toNat)
    case atStart => exact ⟨0, A, (false, l, b, q, t), by omega, rfl, rfl, O4.out, X4.out, Z4.out, B4.out⟩
    case round =>
      clear O4 X4 Z4 B4
      obtain ⟨k, B, z, hk, rfl, hw, hown, hx, hz, hb⟩ := hrel
      obtain ⟨ay, cy, rfl, -⟩ := own_formq hown
      obtain ⟨oz, -⟩ := M.wkR_facts (S.take k) HOp.out (fun s hs => H3T.out s (List.mem_of_mem_take hs)) hw
      by_cases hlt : k < N
      · have hki : (k : Int) < N := by omega
        obtain ⟨s, hs⟩ : ∃ s, S[k]? = some s := ⟨_, List.getElem?_eq_getElem (by rw [HN.out]; exact hlt)⟩
        obtain ⟨bI, oI, rfl⟩ := HPs.out (by omega)
        have ci := Is.cellq (IST.out.below hb) hs
        obtain ⟨⟨x1, L1, n1⟩, hq⟩ : ∃ q, M.partA B z s = q := ⟨_, rfl⟩
        have FY := hidq (opn_fit oz)
        have UB := hidq (ts_ofown hown (M.opn_iff.1 oz).1)
        have HQ := hidq hq
        have XR := hidq hx
        have ZR := hidq hz
        have BW := hidq hb
        have XV := hx
        obtain ⟨d0, d1, d2, d3, d4, d5, d6, d7, d8⟩ := XV.cells; obtain ⟨h0, h1, h2, h3, h4, h5, h6, h7, h8⟩ := XV.frozen
        have SR := hidq (show w.heap.size + 2 ≤ wr.heap.size by have := hz.lt; omega)
        by_cases hn : n1 = 0
        · subst hn
          have NX := hidq ((M.wkR_next hw hs).trans hq)
          clear hw hown hx hz hb oz hs hq XV
          go_wp2_with (first | (go_at_call 75; refine (vpart_eq FY.out HQ.out _ UB.out).mono ?_; rintro e w3 ⟨v3, rfl, ho3, hb3⟩; have XW := ZR.out.below hb3; obtain ⟨c0, c1, c2, c3, c4, c5, c6, c7, c8⟩ := XW.cells; obtain ⟨f0, f1, f2, f3, f4, f5, f6, f7, f8⟩ := XW.frozen; clear d0 d1 d2 d3 d4 d5 d6 d7 d8 h0 h1 h2 h3 h4 h5 h6 h7 h8; have XV := XR.out.below hb3; obtain ⟨d0, d1, d2, d3, d4, d5, d6, d7, d8⟩ := XV.cells; obtain ⟨h0, h1, h2, h3, h4, h5, h6, h7, h8⟩ := XV.frozen; have ZS := hidq XW; have XS := hidq XV; have BS := hidq (below_trans BW.out hb3); have OS := hidq ho3; clear XW XV hb3 ho3))
          go_roundw
          case rel => exact ⟨k + 1, L1, x1, by omega, by go_num, NX.out, own_lowerq (own_set9 OS.out (by have := SR.out; omega) _ _ _ _ _ _ _ _ _) SR.out, XS.out.set x1, ZS.out.other9 (by omega) _ _ _ _ _ _ _ _ _, below_set9 BS.out (Nat.le_refl _) _ _ _ _ _ _ _ _ _⟩
          case measure => simp [intOf]; omega
        · have NX := M.wkR_stop hw hs (by rw [hq]; exact hn)
          rw [hq, HH.out] at NX
          have hnb : (n1 == 0) = false := beq_eq_false_iff_ne.2 hn
          have hnc : (n1 != 0) = true := by simpa using hn
          clear hw hown hx hz hb oz hs hq XV
          simp only [Prod.mk.injEq] at NX
          obtain ⟨rfl, rfl, rfl⟩ := NX
          go_wp2_with (first | (go_at_call 75; refine (vpart_eq FY.out HQ.out _ UB.out).mono ?_; rintro e w3 ⟨v3, rfl, ho3, hb3⟩; have XW := ZR.out.below hb3; obtain ⟨c0, c1, c2, c3, c4, c5, c6, c7, c8⟩ := XW.cells; obtain ⟨f0, f1, f2, f3, f4, f5, f6, f7, f8⟩ := XW.frozen; clear d0 d1 d2 d3 d4 d5 d6 d7 d8 h0 h1 h2 h3 h4 h5 h6 h7 h8; have XV := XR.out.below hb3; obtain ⟨d0, d1, d2, d3, d4, d5, d6, d7, d8⟩ := XV.cells; obtain ⟨h0, h1, h2, h3, h4, h5, h6, h7, h8⟩ := XV.frozen; have ZS := hidq XW; have XS := hidq XV; have BS := hidq (below_trans BW.out hb3); have OS := hidq ho3; clear XW XV hb3 ho3))
          refine bodyPost_ret (v := .tuple #[.agg #[.bool _, .bool _, .int .u64 _, .int .u64 _, .int .u64 _, .int .u64 _, .int .u64 _, .int .u64 _, .int .i64 _], _, .int .i64 _]) (by simp [results, go_sem, c0, c1, c2, c3, c4, c5, c6, c7, c8, Tryz.results52]; exact ⟨rfl, rfl, rfl, rfl, rfl, rfl, rfl, rfl, rfl⟩) rfl ⟨_, rfl, World.ownsRow_nil _ _ _ _, below_set9 (below_set9 BS.out (Nat.le_refl _) _ _ _ _ _ _ _ _ _) (by omega) _ _ _ _ _ _ _ _ _⟩
      · obtain rfl : N = k := by omega
        have hki : ¬ (N : Int) < N := by omega
        rw [List.take_of_length_le (by rw [HN.out]; exact Nat.le_refl _), HH.out] at hw
        simp only [Prod.mk.injEq] at hw
        obtain ⟨rfl, rfl, rfl⟩ := hw
        have XV := hx
        obtain ⟨d0, d1, d2, d3, d4, d5, d6, d7, d8⟩ := XV.cells; obtain ⟨h0, h1, h2, h3, h4, h5, h6, h7, h8⟩ := XV.frozen
        have XW := hz
        obtain ⟨c0, c1, c2, c3, c4, c5, c6, c7, c8⟩ := XW.cells; obtain ⟨f0, f1, f2, f3, f4, f5, f6, f7, f8⟩ := XW.frozen
        have OT := hidq hown
        have BW := hidq hb
        clear hown hx hz hb oz XV XW
        go_wp2
        refine bodyPost_ret (v := .tuple #[.agg #[.bool _, .bool _, .int .u64 _, .int .u64 _, .int .u64 _, .int .u64 _, .int .u64 _, .int .u64 _, .int .i64 _], _, .int .i64 _]) (by simp [results, go_sem, c0, c1, c2, c3, c4, c5, c6, c7, c8, Tryz.results52]) rfl ⟨_, rfl, own_lowerq (own_set9 OT.out (by omega) _ _ _ _ _ _ _ _ _) (by omega), below_set9 BW.out (by omega) _ _ _ _ _ _ _ _ _⟩
  | true =>
    obtain ⟨i0, hi0, -⟩ := M.opn_place ho hv1
    obtain ⟨s, l, b, q, t⟩ := v
    obtain rfl : s = true := hv1
    obtain rfl : t = (i0 : Int) := congrArg (fun v : M.Val => v.2.2.2.2) hi0
    have EQ : Hid (∀ j : Int, ((true, l, b, q, j) : M.Val) = M.ofT j) := by
      obtain ⟨e1, e2, e3⟩ : l = false ∧ b = (0#64, 0#64) ∧ q = ((0#64, 0#64), (0#64, 0#64)) := by
        simp only [M.ofT, Prod.mk.injEq] at hi0
        exact ⟨hi0.2.1, hi0.2.2.1, hi0.2.2.2.1⟩
      rw [e1, e2, e3]
      exact fun _ => rfl
    have HO := hidq (show M.opn A (M.ofT i0) = true from EQ.out i0 ▸ ho)
    have HH0 := hidq (show M.wkR S A (M.ofT i0) = (x, L, n) from EQ.out i0 ▸ h)
    clear hi0 h ho us
    dsimp only at X0 U0 B0 Z0 SC HC ⊢
    go_enter Tryz.func52, Tryz.ntmps52
    go_upto_region 5 with (first | (go_at_call 72; refine (HC.out _ U0.out).mono ?_; rintro e w1 ⟨rfl, hb1⟩; have XW := Z0.out.below hb1; obtain ⟨c0, c1, c2, c3, c4, c5, c6, c7, c8⟩ := XW.cells; obtain ⟨f0, f1, f2, f3, f4, f5, f6, f7, f8⟩ := XW.frozen; have XV := X0.out.below hb1; obtain ⟨d0, d1, d2, d3, d4, d5, d6, d7, d8⟩ := XV.cells; obtain ⟨h0, h1, h2, h3, h4, h5, h6, h7, h8⟩ := XV.frozen; have Z1 := hidq XW; have X1 := hidq XV; have U1 := hidq (U0.out.below hb1); have B1 := hidq (below_trans B0.out hb1); clear hb1 XW XV) | (go_at_call 73; refine (SC.out _ U1.out).mono ?_; rintro e w2 ⟨rfl, hb2⟩; clear c0 c1 c2 c3 c4 c5 c6 c7 c8 f0 f1 f2 f3 f4 f5 f6 f7 f8 d0 d1 d2 d3 d4 d5 d6 d7 d8 h0 h1 h2 h3 h4 h5 h6 h7 h8; have XW := Z1.out.below hb2; obtain ⟨c0, c1, c2, c3, c4, c5, c6, c7, c8⟩ := XW.cells; obtain ⟨f0, f1, f2, f3, f4, f5, f6, f7, f8⟩ := XW.frozen; have XV := X1.out.below hb2; obtain ⟨d0, d1, d2, d3, d4, d5, d6, d7, d8⟩ := XV.cells; obtain ⟨h0, h1, h2, h3, h4, h5, h6, h7, h8⟩ := XV.frozen; have Z2 := hidq XW; have X2 := hidq XV; have U2 := hidq (U1.out.below hb2); have B2 := hidq (below_trans B1.out hb2); clear hb2 XW XV) | (go_at_call 74; refine (ldown_eq HO.out H3.out w _ B2.out US.out IS.out).mono ?_; rintro e w3 ⟨i, T, vt, rfl, it, hoi, h3i, hlt, he, hil, hb3⟩; clear c0 c1 c2 c3 c4 c5 c6 c7 c8 f0 f1 f2 f3 f4 f5 f6 f7 f8 d0 d1 d2 d3 d4 d5 d6 d7 d8 h0 h1 h2 h3 h4 h5 h6 h7 h8; have XW := Z2.out.below hb3; obtain ⟨c0, c1, c2, c3, c4, c5, c6, c7, c8⟩ := XW.cells; obtain ⟨f0, f1, f2, f3, f4, f5, f6, f7, f8⟩ := XW.frozen; have XV := X2.out.below hb3; obtain ⟨d0, d1, d2, d3, d4, d5, d6, d7, d8⟩ := XV.cells; obtain ⟨h0, h1, h2, h3, h4, h5, h6, h7, h8⟩ := XV.frozen; have Z3 := hidq (XW.other (p := ⟨w.heap.size, 8, none⟩) (by show w.heap.size + 1 ≠ w.heap.size; omega) (.int .i64 (i : Int))); have X3 := hidq (XV.place (i : Int)); have B3 := hidq ((below_trans B2.out hb3).setCell (p := ⟨w.heap.size, 8, none⟩) (Nat.le_refl _) (.int .i64 (i : Int))); have IT := hidq it; have OI := hidq hoi; have TI := hidq h3i; have TL := hidq hlt; have HE := hidq he; clear hb3 XW XV it hoi h3i hlt he))
    have HH := hidq (show M.wkR T A (true, l, b, q, (i : Int)) = (x, L, n) by rw [EQ.out, ← HE.out]; exact HH0.out)
    have HOp := hidq (show M.opn A (true, l, b, q, (i : Int)) = true by rw [EQ.out]; exact OI.out)
    have H3T := hidq TI.out
    have IST := hidq IT.out
    obtain ⟨as_, cs, rfl, q1, q2, q3⟩ := IT.out.form
    have hm : T.length ≤ maxLen := by omega
    unfold maxLen at hm
    have HPs := hidq q3
    clear q3 HH0 HO HE OI TI
    generalize hN : T.length = N at *
    have HN := hidq hN
    clear hN
    go_wp2_with (first | (go_at_call 18; refine (cloneT_any A HA.out _ _ (US.out.below B3.out)).mono ?_; rintro e w4 ⟨v4, rfl, o4, hb4⟩; have O4 := hidq (own_lowerq o4 (show w.heap.size + 2 ≤ _ from by have := Z3.out.lt; omega)); have Z4 := hidq (Z3.out.below hb4); have X4 := hidq (X3.out.below hb4); have B4 := hidq (below_trans B3.out hb4); clear hb4 o4 c0 c1 c2 c3 c4 c5 c6 c7 c8 f0 f1 f2 f3 f4 f5 f6 f7 f8 d0 d1 d2 d3 d4 d5 d6 d7 d8 h0 h1 h2 h3 h4 h5 h6 h7 h8))
    obtain ⟨wy, hwy⟩ : ∃ wy, wy = w4 := ⟨_, rfl⟩
    subst hwy
    go_loopw [38, 9] (fun ii s wr => ∃ (k : Nat) (B : List M.Tm) (z : M.Val), k ≤ N ∧ ii = .int .i64 k ∧ M.wkR (T.take k) A (true, l, b, q, (i : Int)) = (z, B, 0) ∧ wr.ownsRow (w.heap.size + 2) 39 3 s B.length (elTm.cells B) ∧ Bx9 wr w.heap.size z ∧ Bx9 wr (w.heap.size + 1) M.zV ∧ Below w.heap.size w wr) (fun ii _ _ => N - (intOf ii).toNat)
    case atStart => exact ⟨0, A, (true, l, b, q, (i : Int)), by omega, rfl, rfl, O4.out, X4.out, Z4.out, B4.out⟩
    case round =>
      clear O4 X4 Z4 B4
      obtain ⟨k, B, z, hk, rfl, hw, hown, hx, hz, hb⟩ := hrel
      obtain ⟨ay, cy, rfl, -⟩ := own_formq hown
      obtain ⟨oz, -⟩ := M.wkR_facts (T.take k) HOp.out (fun s hs => H3T.out s (List.mem_of_mem_take hs)) hw
      by_cases hlt : k < N
      · have hki : (k : Int) < N := by omega
        obtain ⟨s, hs⟩ : ∃ s, T[k]? = some s := ⟨_, List.getElem?_eq_getElem (by rw [HN.out]; exact hlt)⟩
        obtain ⟨bI, oI, rfl⟩ := HPs.out (by omega)
        have ci := Is.cellq (IST.out.below hb) hs
        obtain ⟨⟨x1, L1, n1⟩, hq⟩ : ∃ q, M.partA B z s = q := ⟨_, rfl⟩
        have FY := hidq (opn_fit oz)
        have UB := hidq (ts_ofown hown (M.opn_iff.1 oz).1)
        have HQ := hidq hq
        have XR := hidq hx
        have ZR := hidq hz
        have BW := hidq hb
        have XV := hx
        obtain ⟨d0, d1, d2, d3, d4, d5, d6, d7, d8⟩ := XV.cells; obtain ⟨h0, h1, h2, h3, h4, h5, h6, h7, h8⟩ := XV.frozen
        have SR := hidq (show w.heap.size + 2 ≤ wr.heap.size by have := hz.lt; omega)
        by_cases hn : n1 = 0
        · subst hn
          have NX := hidq ((M.wkR_next hw hs).trans hq)
          clear hw hown hx hz hb oz hs hq XV
          go_wp2_with (first | (go_at_call 75; refine (vpart_eq FY.out HQ.out _ UB.out).mono ?_; rintro e w3 ⟨v3, rfl, ho3, hb3⟩; have XW := ZR.out.below hb3; obtain ⟨c0, c1, c2, c3, c4, c5, c6, c7, c8⟩ := XW.cells; obtain ⟨f0, f1, f2, f3, f4, f5, f6, f7, f8⟩ := XW.frozen; clear d0 d1 d2 d3 d4 d5 d6 d7 d8 h0 h1 h2 h3 h4 h5 h6 h7 h8; have XV := XR.out.below hb3; obtain ⟨d0, d1, d2, d3, d4, d5, d6, d7, d8⟩ := XV.cells; obtain ⟨h0, h1, h2, h3, h4, h5, h6, h7, h8⟩ := XV.frozen; have ZS := hidq XW; have XS := hidq XV; have BS := hidq (below_trans BW.out hb3); have OS := hidq ho3; clear XW XV hb3 ho3))
          go_roundw
          case rel => exact ⟨k + 1, L1, x1, by omega, by go_num, NX.out, own_lowerq (own_set9 OS.out (by have := SR.out; omega) _ _ _ _ _ _ _ _ _) SR.out, XS.out.set x1, ZS.out.other9 (by omega) _ _ _ _ _ _ _ _ _, below_set9 BS.out (Nat.le_refl _) _ _ _ _ _ _ _ _ _⟩
          case measure => simp [intOf]; omega
        · have NX := M.wkR_stop hw hs (by rw [hq]; exact hn)
          rw [hq, HH.out] at NX
          have hnb : (n1 == 0) = false := beq_eq_false_iff_ne.2 hn
          have hnc : (n1 != 0) = true := by simpa using hn
          clear hw hown hx hz hb oz hs hq XV
          simp only [Prod.mk.injEq] at NX
          obtain ⟨rfl, rfl, rfl⟩ := NX
          go_wp2_with (first | (go_at_call 75; refine (vpart_eq FY.out HQ.out _ UB.out).mono ?_; rintro e w3 ⟨v3, rfl, ho3, hb3⟩; have XW := ZR.out.below hb3; obtain ⟨c0, c1, c2, c3, c4, c5, c6, c7, c8⟩ := XW.cells; obtain ⟨f0, f1, f2, f3, f4, f5, f6, f7, f8⟩ := XW.frozen; clear d0 d1 d2 d3 d4 d5 d6 d7 d8 h0 h1 h2 h3 h4 h5 h6 h7 h8; have XV := XR.out.below hb3; obtain ⟨d0, d1, d2, d3, d4, d5, d6, d7, d8⟩ := XV.cells; obtain ⟨h0, h1, h2, h3, h4, h5, h6, h7, h8⟩ := XV.frozen; have ZS := hidq XW; have XS := hidq XV; have BS := hidq (below_trans BW.out hb3); have OS := hidq ho3; clear XW XV hb3 ho3))
          refine bodyPost_ret (v := .tuple #[.agg #[.bool _, .bool _, .int .u64 _, .int .u64 _, .int .u64 _, .int .u64 _, .int .u64 _, .int .u64 _, .int .i64 _], _, .int .i64 _]) (by simp [results, go_sem, c0, c1, c2, c3, c4, c5, c6, c7, c8, Tryz.results52]; exact ⟨rfl, rfl, rfl, rfl, rfl, rfl, rfl, rfl, rfl⟩) rfl ⟨_, rfl, World.ownsRow_nil _ _ _ _, below_set9 (below_set9 BS.out (Nat.le_refl _) _ _ _ _ _ _ _ _ _) (by omega) _ _ _ _ _ _ _ _ _⟩
      · obtain rfl : N = k := by omega
        have hki : ¬ (N : Int) < N := by omega
        rw [List.take_of_length_le (by rw [HN.out]; exact Nat.le_refl _), HH.out] at hw
        simp only [Prod.mk.injEq] at hw
        obtain ⟨rfl, rfl, rfl⟩ := hw
        have XV := hx
        obtain ⟨d0, d1, d2, d3, d4, d5, d6, d7, d8⟩ := XV.cells; obtain ⟨h0, h1, h2, h3, h4, h5, h6, h7, h8⟩ := XV.frozen
        have XW := hz
        obtain ⟨c0, c1, c2, c3, c4, c5, c6, c7, c8⟩ := XW.cells; obtain ⟨f0, f1, f2, f3, f4, f5, f6, f7, f8⟩ := XW.frozen
        have OT := hidq hown
        have BW := hidq hb
        clear hown hx hz hb oz XV XW
        go_wp2
        refine bodyPost_ret (v := .tuple #[.agg #[.bool _, .bool _, .int .u64 _, .int .u64 _, .int .u64 _, .int .u64 _, .int .u64 _, .int .u64 _, .int .i64 _], _, .int .i64 _]) (by simp [results, go_sem, c0, c1, c2, c3, c4, c5, c6, c7, c8, Tryz.results52]) rfl ⟨_, rfl, own_lowerq (own_set9 OT.out (by omega) _ _ _ _ _ _ _ _ _) (by omega), below_set9 BW.out (by omega) _ _ _ _ _ _ _ _ _⟩
set_option maxRecDepth 100000 in
theorem lbyp_eq {A : List M.Tm} {v : M.Val} {S : List Int} (h3 : M.Opn3 S) {x : M.Val} {L : List M.Tm} {n : Int} (h : M.bypA A v S = (x, L, n)) {vl vs : Value} (w : World) (u : Ts w vl A) (us : Is w vs S) :
    Calls Tryz.prog 52 #[vl, (.agg #[.bool v.1, .bool v.2.1, .int .u64 (M.nu v.2.2.1.1), .int .u64 (M.nu v.2.2.1.2), .int .u64 (M.nu v.2.2.2.1.1.1), .int .u64 (M.nu v.2.2.2.1.1.2), .int .u64 (M.nu v.2.2.2.1.2.1), .int .u64 (M.nu v.2.2.2.1.2.2), .int .i64 v.2.2.2.2]), vs] w fun e w' => ∃ v', e = .returned (.tuple #[(.agg #[.bool x.1, .bool x.2.1, .int .u64 (M.nu x.2.2.1.1), .int .u64 (M.nu x.2.2.1.2), .int .u64 (M.nu x.2.2.2.1.1.1), .int .u64 (M.nu x.2.2.2.1.1.2), .int .u64 (M.nu x.2.2.2.1.2.1), .int .u64 (M.nu x.2.2.2.1.2.2), .int .i64 x.2.2.2.2]), v', .int .i64 n]) ∧ w'.ownsRow w.heap.size 39 3 v' L.length (elTm.cells L) ∧ Below w.heap.size w w' := by
  by_cases ho : M.opn A v = true
  · rw [M.byp_yes ho] at h
    exact lbyp_yes ho h3 h w u us
  · rw [M.byp_no ho] at h
    simp only [Prod.mk.injEq] at h
    obtain ⟨rfl, rfl, rfl⟩ := h
    exact lbyp_no ho w u
end Go.Proofs.YthmiekinjfaflaaGreat
