/-
  The document's own Label of layer 13, at every input. Conditions: the slice holds terms; the numbers fit their kinds.
-/
import Derived.Test.YthmiekinjfaflaaGreatZLb1
import Derived.Test.YthmiekinjfaflaaGreatZNZ
import Derived.Test.YthmiekinjfaflaaGreatZTR
namespace Go.Proofs.YthmiekinjfaflaaGreat
open Go.RowKit
set_option maxRecDepth 100000 in
set_option maxHeartbeats 2000000 in
theorem rlab_no {A : List M.Tm} {h : Int} {m : M.Val} {I J : Int} (hh : ¬ (M.subB h I J = true ∧ M.opn A m = true)) (i0 : 0 ≤ I) (i1 : I ≤ 18446744073709551615) (j0 : 0 ≤ J) (j1 : J ≤ 18446744073709551615) {vl : Value} (w : World) (u : Ts w vl A) :
    Calls Tryz.prog 21 #[vl, .int .i64 h, (.agg #[.bool m.1, .bool m.2.1, .int .u64 (M.nu m.2.2.1.1), .int .u64 (M.nu m.2.2.1.2), .int .u64 (M.nu m.2.2.2.1.1.1), .int .u64 (M.nu m.2.2.2.1.1.2), .int .u64 (M.nu m.2.2.2.1.2.1), .int .u64 (M.nu m.2.2.2.1.2.2), .int .i64 m.2.2.2.2]), .agg #[.int .u64 I, .int .u64 J]] w fun e w' => ∃ v', e = .returned (.tuple #[(.agg #[.bool M.zV.1, .bool M.zV.2.1, .int .u64 (M.nu M.zV.2.2.1.1), .int .u64 (M.nu M.zV.2.2.1.2), .int .u64 (M.nu M.zV.2.2.2.1.1.1), .int .u64 (M.nu M.zV.2.2.2.1.1.2), .int .u64 (M.nu M.zV.2.2.2.1.2.1), .int .u64 (M.nu M.zV.2.2.2.1.2.2), .int .i64 M.zV.2.2.2.2]), v', .int .i64 1]) ∧ w'.ownsRow w.heap.size 39 3 v' 0 (elTm.cells []) ∧ Below w.heap.size w w' := by
  rw [zV_eq]
  have Xm0 := hidq (((Bx9.new w m).alloc (.cells #[.int .u64 I, .int .u64 J] 46)).alloc (.cells #[.bool false, .bool false, .int .u64 0, .int .u64 0, .int .u64 0, .int .u64 0, .int .u64 0, .int .u64 0, .int .i64 0] 29))
  have Xs0 := hidq ((Bi.new1 w (.cells #[.bool m.1, .bool m.2.1, .int .u64 (M.nu m.2.2.1.1), .int .u64 (M.nu m.2.2.1.2), .int .u64 (M.nu m.2.2.2.1.1.1), .int .u64 (M.nu m.2.2.2.1.1.2), .int .u64 (M.nu m.2.2.2.1.2.1), .int .u64 (M.nu m.2.2.2.1.2.2), .int .i64 m.2.2.2.2] 29) 46 I J).alloc (.cells #[.bool false, .bool false, .int .u64 0, .int .u64 0, .int .u64 0, .int .u64 0, .int .u64 0, .int .u64 0, .int .i64 0] 29))
  have Xz0 := hidq (zbox ((w.alloc (.cells #[.bool m.1, .bool m.2.1, .int .u64 (M.nu m.2.2.1.1), .int .u64 (M.nu m.2.2.1.2), .int .u64 (M.nu m.2.2.2.1.1.1), .int .u64 (M.nu m.2.2.2.1.1.2), .int .u64 (M.nu m.2.2.2.1.2.1), .int .u64 (M.nu m.2.2.2.1.2.2), .int .i64 m.2.2.2.2] 29)).alloc (.cells #[.int .u64 I, .int .u64 J] 46)))
  rw [World.size_alloc, World.size_alloc] at Xz0
  have UA0 := hidq (((u.alloc (.cells #[.bool m.1, .bool m.2.1, .int .u64 (M.nu m.2.2.1.1), .int .u64 (M.nu m.2.2.1.2), .int .u64 (M.nu m.2.2.2.1.1.1), .int .u64 (M.nu m.2.2.2.1.1.2), .int .u64 (M.nu m.2.2.2.1.2.1), .int .u64 (M.nu m.2.2.2.1.2.2), .int .i64 m.2.2.2.2] 29)).alloc (.cells #[.int .u64 I, .int .u64 J] 46)).alloc (.cells #[.bool false, .bool false, .int .u64 0, .int .u64 0, .int .u64 0, .int .u64 0, .int .u64 0, .int .u64 0, .int .i64 0] 29))
  have B0 := hidq (show Below w.heap.size w (((w.alloc (.cells #[.bool m.1, .bool m.2.1, .int .u64 (M.nu m.2.2.1.1), .int .u64 (M.nu m.2.2.1.2), .int .u64 (M.nu m.2.2.2.1.1.1), .int .u64 (M.nu m.2.2.2.1.1.2), .int .u64 (M.nu m.2.2.2.1.2.1), .int .u64 (M.nu m.2.2.2.1.2.2), .int .i64 m.2.2.2.2] 29)).alloc (.cells #[.int .u64 I, .int .u64 J] 46)).alloc (.cells #[.bool false, .bool false, .int .u64 0, .int .u64 0, .int .u64 0, .int .u64 0, .int .u64 0, .int .u64 0, .int .i64 0] 29)) from below_one (below_one (below_one (Below.refl _ _))))
  have cm0 := Xm0.out.cells
  have cs0 := Xs0.out.facts
  clear u
  cases hs : M.subB h I J with
  | false =>
    have HS := hidq (M.sub_no hs)
    clear hh hs
    go_enter Tryz.func21, Tryz.ntmps21
    go_wp2_with (first | (go_at_call 37; refine (rcheck8_any h I _ _ i0 i1 j0 j1).mono ?_; rw [HS.out]; rintro e w1 ⟨rfl, hb1⟩; have Ym1 := Xm0.out.below hb1; have cm1 := Ym1.cells; have lm1 := Ym1.lt; have Xm1 := hidq (Ym1); have Ys1 := Xs0.out.below hb1; have cs1 := Ys1.facts; have ls1 := Ys1.lt; have Xs1 := hidq (Ys1); have Yz1 := Xz0.out.below hb1; have cz1 := Yz1.cells; have fz1 := Yz1.frozen; have lz1 := Yz1.lt; have Xz1 := hidq (Yz1); have UA1 := hidq (UA0.out.below hb1); have B1 := hidq (below_trans B0.out hb1); clear hb1 Ym1 Ys1 Yz1))
    refine bodyPost_ret (v := .tuple #[.agg #[.bool _, .bool _, .int .u64 _, .int .u64 _, .int .u64 _, .int .u64 _, .int .u64 _, .int .u64 _, .int .i64 _], _, .int .i64 _]) (by simp [results, go_sem, cz1, Tryz.results21]) rfl ⟨_, rfl, World.ownsRow_nil _ _ _ _, below_set9 B1.out (by omega) _ _ _ _ _ _ _ _ _⟩
  | true =>
    have HS := hidq (M.sub_yes hs)
    cases ho : M.opn A m with
    | true => exact absurd ⟨hs, ho⟩ hh
    | false =>
      have HO := hidq (fun W (u : Ts W vl A) => ropn_eq ho W u)
      clear hh hs ho
      go_enter Tryz.func21, Tryz.ntmps21
      go_wp2_with (first | (go_at_call 37; refine (rcheck8_any h I _ _ i0 i1 j0 j1).mono ?_; rw [HS.out]; rintro e w1 ⟨rfl, hb1⟩; have Ym1 := Xm0.out.below hb1; have cm1 := Ym1.cells; have lm1 := Ym1.lt; have Xm1 := hidq (Ym1); have Ys1 := Xs0.out.below hb1; have cs1 := Ys1.facts; have ls1 := Ys1.lt; have Xs1 := hidq (Ys1); have Yz1 := Xz0.out.below hb1; have cz1 := Yz1.cells; have fz1 := Yz1.frozen; have lz1 := Yz1.lt; have Xz1 := hidq (Yz1); have UA1 := hidq (UA0.out.below hb1); have B1 := hidq (below_trans B0.out hb1); clear hb1 Ym1 Ys1 Yz1) | (go_at_call 20; refine (HO.out _ UA1.out).mono ?_; rintro e w2 ⟨rfl, hb2⟩; have Ym2 := Xm1.out.below hb2; have cm2 := Ym2.cells; have lm2 := Ym2.lt; have Xm2 := hidq (Ym2); have Ys2 := Xs1.out.below hb2; have cs2 := Ys2.facts; have ls2 := Ys2.lt; have Xs2 := hidq (Ys2); have Yz2 := Xz1.out.below hb2; have cz2 := Yz2.cells; have fz2 := Yz2.frozen; have lz2 := Yz2.lt; have Xz2 := hidq (Yz2); have UA2 := hidq (UA1.out.below hb2); have B2 := hidq (below_trans B1.out hb2); clear cm1 lm1 cs1 ls1 cz1 lz1 fz1; clear hb2 Ym2 Ys2 Yz2))
      refine bodyPost_ret (v := .tuple #[.agg #[.bool _, .bool _, .int .u64 _, .int .u64 _, .int .u64 _, .int .u64 _, .int .u64 _, .int .u64 _, .int .i64 _], _, .int .i64 _]) (by simp [results, go_sem, cz2, Tryz.results21]) rfl ⟨_, rfl, World.ownsRow_nil _ _ _ _, below_set9 B2.out (by omega) _ _ _ _ _ _ _ _ _⟩
set_option maxRecDepth 100000 in
set_option maxHeartbeats 2000000 in
theorem rlab_1 {A : List M.Tm} {h : Int} {m : M.Val} {I J : Int} (hs : M.subB h I J = true) (ho : M.opn A m = true) {x1 : M.Val} {L1 : List M.Tm} {n1 : Int} (hN : M.nodeA A h m I = (x1, L1, n1)) (hn : ¬ n1 = 0) (i0 : 0 ≤ I) (i1 : I ≤ 18446744073709551615) (j0 : 0 ≤ J) (j1 : J ≤ 18446744073709551615) {vl : Value} (w : World) (u : Ts w vl A) :
    Calls Tryz.prog 21 #[vl, .int .i64 h, (.agg #[.bool m.1, .bool m.2.1, .int .u64 (M.nu m.2.2.1.1), .int .u64 (M.nu m.2.2.1.2), .int .u64 (M.nu m.2.2.2.1.1.1), .int .u64 (M.nu m.2.2.2.1.1.2), .int .u64 (M.nu m.2.2.2.1.2.1), .int .u64 (M.nu m.2.2.2.1.2.2), .int .i64 m.2.2.2.2]), .agg #[.int .u64 I, .int .u64 J]] w fun e w' => ∃ v', e = .returned (.tuple #[(.agg #[.bool M.zV.1, .bool M.zV.2.1, .int .u64 (M.nu M.zV.2.2.1.1), .int .u64 (M.nu M.zV.2.2.1.2), .int .u64 (M.nu M.zV.2.2.2.1.1.1), .int .u64 (M.nu M.zV.2.2.2.1.1.2), .int .u64 (M.nu M.zV.2.2.2.1.2.1), .int .u64 (M.nu M.zV.2.2.2.1.2.2), .int .i64 M.zV.2.2.2.2]), v', .int .i64 n1]) ∧ w'.ownsRow w.heap.size 39 3 v' 0 (elTm.cells []) ∧ Below w.heap.size w w' := by
  rw [zV_eq]
  have Xm0 := hidq (((Bx9.new w m).alloc (.cells #[.int .u64 I, .int .u64 J] 46)).alloc (.cells #[.bool false, .bool false, .int .u64 0, .int .u64 0, .int .u64 0, .int .u64 0, .int .u64 0, .int .u64 0, .int .i64 0] 29))
  have Xs0 := hidq ((Bi.new1 w (.cells #[.bool m.1, .bool m.2.1, .int .u64 (M.nu m.2.2.1.1), .int .u64 (M.nu m.2.2.1.2), .int .u64 (M.nu m.2.2.2.1.1.1), .int .u64 (M.nu m.2.2.2.1.1.2), .int .u64 (M.nu m.2.2.2.1.2.1), .int .u64 (M.nu m.2.2.2.1.2.2), .int .i64 m.2.2.2.2] 29) 46 I J).alloc (.cells #[.bool false, .bool false, .int .u64 0, .int .u64 0, .int .u64 0, .int .u64 0, .int .u64 0, .int .u64 0, .int .i64 0] 29))
  have Xz0 := hidq (zbox ((w.alloc (.cells #[.bool m.1, .bool m.2.1, .int .u64 (M.nu m.2.2.1.1), .int .u64 (M.nu m.2.2.1.2), .int .u64 (M.nu m.2.2.2.1.1.1), .int .u64 (M.nu m.2.2.2.1.1.2), .int .u64 (M.nu m.2.2.2.1.2.1), .int .u64 (M.nu m.2.2.2.1.2.2), .int .i64 m.2.2.2.2] 29)).alloc (.cells #[.int .u64 I, .int .u64 J] 46)))
  rw [World.size_alloc, World.size_alloc] at Xz0
  have UA0 := hidq (((u.alloc (.cells #[.bool m.1, .bool m.2.1, .int .u64 (M.nu m.2.2.1.1), .int .u64 (M.nu m.2.2.1.2), .int .u64 (M.nu m.2.2.2.1.1.1), .int .u64 (M.nu m.2.2.2.1.1.2), .int .u64 (M.nu m.2.2.2.1.2.1), .int .u64 (M.nu m.2.2.2.1.2.2), .int .i64 m.2.2.2.2] 29)).alloc (.cells #[.int .u64 I, .int .u64 J] 46)).alloc (.cells #[.bool false, .bool false, .int .u64 0, .int .u64 0, .int .u64 0, .int .u64 0, .int .u64 0, .int .u64 0, .int .i64 0] 29))
  have B0 := hidq (show Below w.heap.size w (((w.alloc (.cells #[.bool m.1, .bool m.2.1, .int .u64 (M.nu m.2.2.1.1), .int .u64 (M.nu m.2.2.1.2), .int .u64 (M.nu m.2.2.2.1.1.1), .int .u64 (M.nu m.2.2.2.1.1.2), .int .u64 (M.nu m.2.2.2.1.2.1), .int .u64 (M.nu m.2.2.2.1.2.2), .int .i64 m.2.2.2.2] 29)).alloc (.cells #[.int .u64 I, .int .u64 J] 46)).alloc (.cells #[.bool false, .bool false, .int .u64 0, .int .u64 0, .int .u64 0, .int .u64 0, .int .u64 0, .int .u64 0, .int .i64 0] 29)) from below_one (below_one (below_one (Below.refl _ _))))
  have cm0 := Xm0.out.cells
  have cs0 := Xs0.out.facts
  clear u
  have HS := hidq (M.sub_yes hs)
  have HO := hidq (fun W (u : Ts W vl A) => ropn_eq ho W u)
  have HN := hidq hN
  have hnb : (n1 == 0) = false := beq_eq_false_iff_ne.2 hn
  have hnc : (n1 != 0) = true := by simpa using hn
  clear hs ho hN
  go_enter Tryz.func21, Tryz.ntmps21
  go_wp2_with (first | (go_at_call 37; refine (rcheck8_any h I _ _ i0 i1 j0 j1).mono ?_; rw [HS.out]; rintro e w1 ⟨rfl, hb1⟩; have Ym1 := Xm0.out.below hb1; have cm1 := Ym1.cells; have lm1 := Ym1.lt; have Xm1 := hidq (Ym1); have Ys1 := Xs0.out.below hb1; have cs1 := Ys1.facts; have ls1 := Ys1.lt; have Xs1 := hidq (Ys1); have Yz1 := Xz0.out.below hb1; have cz1 := Yz1.cells; have fz1 := Yz1.frozen; have lz1 := Yz1.lt; have Xz1 := hidq (Yz1); have UA1 := hidq (UA0.out.below hb1); have B1 := hidq (below_trans B0.out hb1); clear hb1 Ym1 Ys1 Yz1) | (go_at_call 20; refine (HO.out _ UA1.out).mono ?_; rintro e w2 ⟨rfl, hb2⟩; have Ym2 := Xm1.out.below hb2; have cm2 := Ym2.cells; have lm2 := Ym2.lt; have Xm2 := hidq (Ym2); have Ys2 := Xs1.out.below hb2; have cs2 := Ys2.facts; have ls2 := Ys2.lt; have Xs2 := hidq (Ys2); have Yz2 := Xz1.out.below hb2; have cz2 := Yz2.cells; have fz2 := Yz2.frozen; have lz2 := Yz2.lt; have Xz2 := hidq (Yz2); have UA2 := hidq (UA1.out.below hb2); have B2 := hidq (below_trans B1.out hb2); clear cm1 lm1 cs1 ls1 cz1 lz1 fz1; clear hb2 Ym2 Ys2 Yz2) | (go_at_call 38; refine (rnode13_eq HN.out i0 i1 _ UA2.out).mono ?_; rintro e w3 ⟨v3, rfl, ho3, hb3⟩; have Ym3 := Xm2.out.below hb3; have cm3 := Ym3.cells; have lm3 := Ym3.lt; have Xm3 := hidq ((Ym3).alloc (.cells #[.bool x1.1, .bool x1.2.1, .int .u64 (M.nu x1.2.2.1.1), .int .u64 (M.nu x1.2.2.1.2), .int .u64 (M.nu x1.2.2.2.1.1.1), .int .u64 (M.nu x1.2.2.2.1.1.2), .int .u64 (M.nu x1.2.2.2.1.2.1), .int .u64 (M.nu x1.2.2.2.1.2.2), .int .i64 x1.2.2.2.2] 29)); have Ys3 := Xs2.out.below hb3; have cs3 := Ys3.facts; have ls3 := Ys3.lt; have Xs3 := hidq ((Ys3).alloc (.cells #[.bool x1.1, .bool x1.2.1, .int .u64 (M.nu x1.2.2.1.1), .int .u64 (M.nu x1.2.2.1.2), .int .u64 (M.nu x1.2.2.2.1.1.1), .int .u64 (M.nu x1.2.2.2.1.1.2), .int .u64 (M.nu x1.2.2.2.1.2.1), .int .u64 (M.nu x1.2.2.2.1.2.2), .int .i64 x1.2.2.2.2] 29)); have Yz3 := Xz2.out.below hb3; have cz3 := Yz3.cells; have fz3 := Yz3.frozen; have lz3 := Yz3.lt; have Xz3 := hidq ((Yz3).alloc (.cells #[.bool x1.1, .bool x1.2.1, .int .u64 (M.nu x1.2.2.1.1), .int .u64 (M.nu x1.2.2.1.2), .int .u64 (M.nu x1.2.2.2.1.1.1), .int .u64 (M.nu x1.2.2.2.1.1.2), .int .u64 (M.nu x1.2.2.2.1.2.1), .int .u64 (M.nu x1.2.2.2.1.2.2), .int .i64 x1.2.2.2.2] 29)); have UA3 := hidq ((UA2.out.below hb3).alloc (.cells #[.bool x1.1, .bool x1.2.1, .int .u64 (M.nu x1.2.2.1.1), .int .u64 (M.nu x1.2.2.1.2), .int .u64 (M.nu x1.2.2.2.1.1.1), .int .u64 (M.nu x1.2.2.2.1.1.2), .int .u64 (M.nu x1.2.2.2.1.2.1), .int .u64 (M.nu x1.2.2.2.1.2.2), .int .i64 x1.2.2.2.2] 29)); have Xa3 := hidq (Bx9.new w3 x1); have B3 := hidq (below_one (o := (.cells #[.bool x1.1, .bool x1.2.1, .int .u64 (M.nu x1.2.2.1.1), .int .u64 (M.nu x1.2.2.1.2), .int .u64 (M.nu x1.2.2.2.1.1.1), .int .u64 (M.nu x1.2.2.2.1.1.2), .int .u64 (M.nu x1.2.2.2.1.2.1), .int .u64 (M.nu x1.2.2.2.1.2.2), .int .i64 x1.2.2.2.2] 29)) (below_trans B2.out hb3)); have BN3 := hidq (below_trans B2.out hb3); clear ho3; clear cm2 lm2 cs2 ls2 cz2 lz2 fz2; clear hb3 Ym3 Ys3 Yz3))
  refine bodyPost_ret (v := .tuple #[.agg #[.bool _, .bool _, .int .u64 _, .int .u64 _, .int .u64 _, .int .u64 _, .int .u64 _, .int .u64 _, .int .i64 _], _, .int .i64 _]) (by simp [results, go_sem, cz3, lz3, Tryz.results21]) rfl ⟨_, rfl, World.ownsRow_nil _ _ _ _, below_one (below_set9 BN3.out (by omega) _ _ _ _ _ _ _ _ _)⟩
set_option maxRecDepth 100000 in
set_option maxHeartbeats 2000000 in
theorem rlab_2 {A : List M.Tm} {h : Int} {m : M.Val} {I J : Int} (hs : M.subB h I J = true) (ho : M.opn A m = true) {x1 x2 : M.Val} {L1 L : List M.Tm} {n2 : Int} (hN : M.nodeA A h m I = (x1, L1, 0)) (o1 : M.opn L1 x1 = true) (hP : M.partA L1 x1 2 = (x2, L, n2)) (hn : ¬ n2 = 0 ∨ J = 0) (i0 : 0 ≤ I) (i1 : I ≤ 18446744073709551615) (j0 : 0 ≤ J) (j1 : J ≤ 18446744073709551615) {vl : Value} (w : World) (u : Ts w vl A) :
    Calls Tryz.prog 21 #[vl, .int .i64 h, (.agg #[.bool m.1, .bool m.2.1, .int .u64 (M.nu m.2.2.1.1), .int .u64 (M.nu m.2.2.1.2), .int .u64 (M.nu m.2.2.2.1.1.1), .int .u64 (M.nu m.2.2.2.1.1.2), .int .u64 (M.nu m.2.2.2.1.2.1), .int .u64 (M.nu m.2.2.2.1.2.2), .int .i64 m.2.2.2.2]), .agg #[.int .u64 I, .int .u64 J]] w fun e w' => ∃ v', e = .returned (.tuple #[(.agg #[.bool x2.1, .bool x2.2.1, .int .u64 (M.nu x2.2.2.1.1), .int .u64 (M.nu x2.2.2.1.2), .int .u64 (M.nu x2.2.2.2.1.1.1), .int .u64 (M.nu x2.2.2.2.1.1.2), .int .u64 (M.nu x2.2.2.2.1.2.1), .int .u64 (M.nu x2.2.2.2.1.2.2), .int .i64 x2.2.2.2.2]), v', .int .i64 n2]) ∧ w'.ownsRow w.heap.size 39 3 v' L.length (elTm.cells L) ∧ Below w.heap.size w w' := by
  have Xm0 := hidq (((Bx9.new w m).alloc (.cells #[.int .u64 I, .int .u64 J] 46)).alloc (.cells #[.bool false, .bool false, .int .u64 0, .int .u64 0, .int .u64 0, .int .u64 0, .int .u64 0, .int .u64 0, .int .i64 0] 29))
  have Xs0 := hidq ((Bi.new1 w (.cells #[.bool m.1, .bool m.2.1, .int .u64 (M.nu m.2.2.1.1), .int .u64 (M.nu m.2.2.1.2), .int .u64 (M.nu m.2.2.2.1.1.1), .int .u64 (M.nu m.2.2.2.1.1.2), .int .u64 (M.nu m.2.2.2.1.2.1), .int .u64 (M.nu m.2.2.2.1.2.2), .int .i64 m.2.2.2.2] 29) 46 I J).alloc (.cells #[.bool false, .bool false, .int .u64 0, .int .u64 0, .int .u64 0, .int .u64 0, .int .u64 0, .int .u64 0, .int .i64 0] 29))
  have Xz0 := hidq (zbox ((w.alloc (.cells #[.bool m.1, .bool m.2.1, .int .u64 (M.nu m.2.2.1.1), .int .u64 (M.nu m.2.2.1.2), .int .u64 (M.nu m.2.2.2.1.1.1), .int .u64 (M.nu m.2.2.2.1.1.2), .int .u64 (M.nu m.2.2.2.1.2.1), .int .u64 (M.nu m.2.2.2.1.2.2), .int .i64 m.2.2.2.2] 29)).alloc (.cells #[.int .u64 I, .int .u64 J] 46)))
  rw [World.size_alloc, World.size_alloc] at Xz0
  have UA0 := hidq (((u.alloc (.cells #[.bool m.1, .bool m.2.1, .int .u64 (M.nu m.2.2.1.1), .int .u64 (M.nu m.2.2.1.2), .int .u64 (M.nu m.2.2.2.1.1.1), .int .u64 (M.nu m.2.2.2.1.1.2), .int .u64 (M.nu m.2.2.2.1.2.1), .int .u64 (M.nu m.2.2.2.1.2.2), .int .i64 m.2.2.2.2] 29)).alloc (.cells #[.int .u64 I, .int .u64 J] 46)).alloc (.cells #[.bool false, .bool false, .int .u64 0, .int .u64 0, .int .u64 0, .int .u64 0, .int .u64 0, .int .u64 0, .int .i64 0] 29))
  have B0 := hidq (show Below w.heap.size w (((w.alloc (.cells #[.bool m.1, .bool m.2.1, .int .u64 (M.nu m.2.2.1.1), .int .u64 (M.nu m.2.2.1.2), .int .u64 (M.nu m.2.2.2.1.1.1), .int .u64 (M.nu m.2.2.2.1.1.2), .int .u64 (M.nu m.2.2.2.1.2.1), .int .u64 (M.nu m.2.2.2.1.2.2), .int .i64 m.2.2.2.2] 29)).alloc (.cells #[.int .u64 I, .int .u64 J] 46)).alloc (.cells #[.bool false, .bool false, .int .u64 0, .int .u64 0, .int .u64 0, .int .u64 0, .int .u64 0, .int .u64 0, .int .i64 0] 29)) from below_one (below_one (below_one (Below.refl _ _))))
  have cm0 := Xm0.out.cells
  have cs0 := Xs0.out.facts
  clear u
  have HS := hidq (M.sub_yes hs)
  have HO := hidq (fun W (u : Ts W vl A) => ropn_eq ho W u)
  have HN := hidq hN
  have HP := hidq hP
  have FX := hidq (opn_fit o1)
  have K1 := hidq (M.opn_iff.1 o1).1
  by_cases h0 : n2 = 0
  · obtain rfl : J = 0 := by rcases hn with h | h; exact absurd h0 h; exact h
    subst h0
    clear hs ho hN hP o1 hn
    go_enter Tryz.func21, Tryz.ntmps21
    go_wp2_with (first | (go_at_call 37; refine (rcheck8_any h I _ _ i0 i1 j0 j1).mono ?_; rw [HS.out]; rintro e w1 ⟨rfl, hb1⟩; have Ym1 := Xm0.out.below hb1; have cm1 := Ym1.cells; have lm1 := Ym1.lt; have Xm1 := hidq (Ym1); have Ys1 := Xs0.out.below hb1; have cs1 := Ys1.facts; have ls1 := Ys1.lt; have Xs1 := hidq (Ys1); have Yz1 := Xz0.out.below hb1; have cz1 := Yz1.cells; have fz1 := Yz1.frozen; have lz1 := Yz1.lt; have Xz1 := hidq (Yz1); have UA1 := hidq (UA0.out.below hb1); have B1 := hidq (below_trans B0.out hb1); clear hb1 Ym1 Ys1 Yz1) | (go_at_call 20; refine (HO.out _ UA1.out).mono ?_; rintro e w2 ⟨rfl, hb2⟩; have Ym2 := Xm1.out.below hb2; have cm2 := Ym2.cells; have lm2 := Ym2.lt; have Xm2 := hidq (Ym2); have Ys2 := Xs1.out.below hb2; have cs2 := Ys2.facts; have ls2 := Ys2.lt; have Xs2 := hidq (Ys2); have Yz2 := Xz1.out.below hb2; have cz2 := Yz2.cells; have fz2 := Yz2.frozen; have lz2 := Yz2.lt; have Xz2 := hidq (Yz2); have UA2 := hidq (UA1.out.below hb2); have B2 := hidq (below_trans B1.out hb2); clear cm1 lm1 cs1 ls1 cz1 lz1 fz1; clear hb2 Ym2 Ys2 Yz2) | (go_at_call 38; refine (rnode13_eq HN.out i0 i1 _ UA2.out).mono ?_; rintro e w3 ⟨v3, rfl, ho3, hb3⟩; have Ym3 := Xm2.out.below hb3; have cm3 := Ym3.cells; have lm3 := Ym3.lt; have Xm3 := hidq ((Ym3).alloc (.cells #[.bool x1.1, .bool x1.2.1, .int .u64 (M.nu x1.2.2.1.1), .int .u64 (M.nu x1.2.2.1.2), .int .u64 (M.nu x1.2.2.2.1.1.1), .int .u64 (M.nu x1.2.2.2.1.1.2), .int .u64 (M.nu x1.2.2.2.1.2.1), .int .u64 (M.nu x1.2.2.2.1.2.2), .int .i64 x1.2.2.2.2] 29)); have Ys3 := Xs2.out.below hb3; have cs3 := Ys3.facts; have ls3 := Ys3.lt; have Xs3 := hidq ((Ys3).alloc (.cells #[.bool x1.1, .bool x1.2.1, .int .u64 (M.nu x1.2.2.1.1), .int .u64 (M.nu x1.2.2.1.2), .int .u64 (M.nu x1.2.2.2.1.1.1), .int .u64 (M.nu x1.2.2.2.1.1.2), .int .u64 (M.nu x1.2.2.2.1.2.1), .int .u64 (M.nu x1.2.2.2.1.2.2), .int .i64 x1.2.2.2.2] 29)); have Yz3 := Xz2.out.below hb3; have cz3 := Yz3.cells; have fz3 := Yz3.frozen; have lz3 := Yz3.lt; have Xz3 := hidq ((Yz3).alloc (.cells #[.bool x1.1, .bool x1.2.1, .int .u64 (M.nu x1.2.2.1.1), .int .u64 (M.nu x1.2.2.1.2), .int .u64 (M.nu x1.2.2.2.1.1.1), .int .u64 (M.nu x1.2.2.2.1.1.2), .int .u64 (M.nu x1.2.2.2.1.2.1), .int .u64 (M.nu x1.2.2.2.1.2.2), .int .i64 x1.2.2.2.2] 29)); have UA3 := hidq ((UA2.out.below hb3).alloc (.cells #[.bool x1.1, .bool x1.2.1, .int .u64 (M.nu x1.2.2.1.1), .int .u64 (M.nu x1.2.2.1.2), .int .u64 (M.nu x1.2.2.2.1.1.1), .int .u64 (M.nu x1.2.2.2.1.1.2), .int .u64 (M.nu x1.2.2.2.1.2.1), .int .u64 (M.nu x1.2.2.2.1.2.2), .int .i64 x1.2.2.2.2] 29)); have U13 := hidq ((ts_ofown ho3 K1.out).alloc (.cells #[.bool x1.1, .bool x1.2.1, .int .u64 (M.nu x1.2.2.1.1), .int .u64 (M.nu x1.2.2.1.2), .int .u64 (M.nu x1.2.2.2.1.1.1), .int .u64 (M.nu x1.2.2.2.1.1.2), .int .u64 (M.nu x1.2.2.2.1.2.1), .int .u64 (M.nu x1.2.2.2.1.2.2), .int .i64 x1.2.2.2.2] 29)); have Xa3 := hidq (Bx9.new w3 x1); have B3 := hidq (below_one (o := (.cells #[.bool x1.1, .bool x1.2.1, .int .u64 (M.nu x1.2.2.1.1), .int .u64 (M.nu x1.2.2.1.2), .int .u64 (M.nu x1.2.2.2.1.1.1), .int .u64 (M.nu x1.2.2.2.1.1.2), .int .u64 (M.nu x1.2.2.2.1.2.1), .int .u64 (M.nu x1.2.2.2.1.2.2), .int .i64 x1.2.2.2.2] 29)) (below_trans B2.out hb3)); clear ho3; clear cm2 lm2 cs2 ls2 cz2 lz2 fz2; clear hb3 Ym3 Ys3 Yz3) | (go_at_call 39; refine (rvpart_eq FX.out HP.out _ U13.out).mono ?_; rintro e w4 ⟨v4, rfl, ho4, hb4⟩; have Ym4 := Xm3.out.below hb4; have cm4 := Ym4.cells; have lm4 := Ym4.lt; have Xm4 := hidq ((Ym4).alloc (.cells #[.bool x2.1, .bool x2.2.1, .int .u64 (M.nu x2.2.2.1.1), .int .u64 (M.nu x2.2.2.1.2), .int .u64 (M.nu x2.2.2.2.1.1.1), .int .u64 (M.nu x2.2.2.2.1.1.2), .int .u64 (M.nu x2.2.2.2.1.2.1), .int .u64 (M.nu x2.2.2.2.1.2.2), .int .i64 x2.2.2.2.2] 29)); have Ys4 := Xs3.out.below hb4; have cs4 := Ys4.facts; have ls4 := Ys4.lt; have Xs4 := hidq ((Ys4).alloc (.cells #[.bool x2.1, .bool x2.2.1, .int .u64 (M.nu x2.2.2.1.1), .int .u64 (M.nu x2.2.2.1.2), .int .u64 (M.nu x2.2.2.2.1.1.1), .int .u64 (M.nu x2.2.2.2.1.1.2), .int .u64 (M.nu x2.2.2.2.1.2.1), .int .u64 (M.nu x2.2.2.2.1.2.2), .int .i64 x2.2.2.2.2] 29)); have Yz4 := Xz3.out.below hb4; have cz4 := Yz4.cells; have fz4 := Yz4.frozen; have lz4 := Yz4.lt; have Xz4 := hidq ((Yz4).alloc (.cells #[.bool x2.1, .bool x2.2.1, .int .u64 (M.nu x2.2.2.1.1), .int .u64 (M.nu x2.2.2.1.2), .int .u64 (M.nu x2.2.2.2.1.1.1), .int .u64 (M.nu x2.2.2.2.1.1.2), .int .u64 (M.nu x2.2.2.2.1.2.1), .int .u64 (M.nu x2.2.2.2.1.2.2), .int .i64 x2.2.2.2.2] 29)); have Ya4 := Xa3.out.below hb4; have ca4 := Ya4.cells; have la4 := Ya4.lt; have Xa4 := hidq ((Ya4).alloc (.cells #[.bool x2.1, .bool x2.2.1, .int .u64 (M.nu x2.2.2.1.1), .int .u64 (M.nu x2.2.2.1.2), .int .u64 (M.nu x2.2.2.2.1.1.1), .int .u64 (M.nu x2.2.2.2.1.1.2), .int .u64 (M.nu x2.2.2.2.1.2.1), .int .u64 (M.nu x2.2.2.2.1.2.2), .int .i64 x2.2.2.2.2] 29)); have UA4 := hidq ((UA3.out.below hb4).alloc (.cells #[.bool x2.1, .bool x2.2.1, .int .u64 (M.nu x2.2.2.1.1), .int .u64 (M.nu x2.2.2.1.2), .int .u64 (M.nu x2.2.2.2.1.1.1), .int .u64 (M.nu x2.2.2.2.1.1.2), .int .u64 (M.nu x2.2.2.2.1.2.1), .int .u64 (M.nu x2.2.2.2.1.2.2), .int .i64 x2.2.2.2.2] 29)); have U14 := hidq ((U13.out.below hb4).alloc (.cells #[.bool x2.1, .bool x2.2.1, .int .u64 (M.nu x2.2.2.1.1), .int .u64 (M.nu x2.2.2.1.2), .int .u64 (M.nu x2.2.2.2.1.1.1), .int .u64 (M.nu x2.2.2.2.1.1.2), .int .u64 (M.nu x2.2.2.2.1.2.1), .int .u64 (M.nu x2.2.2.2.1.2.2), .int .i64 x2.2.2.2.2] 29)); have Xb4 := hidq (Bx9.new w4 x2); have B4 := hidq (below_one (o := (.cells #[.bool x2.1, .bool x2.2.1, .int .u64 (M.nu x2.2.2.1.1), .int .u64 (M.nu x2.2.2.1.2), .int .u64 (M.nu x2.2.2.2.1.1.1), .int .u64 (M.nu x2.2.2.2.1.1.2), .int .u64 (M.nu x2.2.2.2.1.2.1), .int .u64 (M.nu x2.2.2.2.1.2.2), .int .i64 x2.2.2.2.2] 29)) (below_trans B3.out hb4)); have LZ4 := hidq (Xz3.out.lt); have ON4 := hidq ho4; have BN4 := hidq (below_trans B3.out hb4); clear ho4; clear cm3 lm3 cs3 ls3 cz3 lz3 fz3; clear hb4 Ym4 Ys4 Yz4 Ya4))
    refine bodyPost_ret (v := .tuple #[.agg #[.bool _, .bool _, .int .u64 _, .int .u64 _, .int .u64 _, .int .u64 _, .int .u64 _, .int .u64 _, .int .i64 _], _, .int .i64 _]) (by simp [results, go_sem, cz4, lz4, Tryz.results21]) rfl ⟨_, rfl, own_lowerq (own_keptq (own_set9 ON4.out LZ4.out _ _ _ _ _ _ _ _ _) (below_one (Below.refl _ _))) (by have := LZ4.out; omega), below_one (below_set9 BN4.out (by omega) _ _ _ _ _ _ _ _ _)⟩
  · have hnb : (n2 == 0) = false := beq_eq_false_iff_ne.2 h0
    have hnc : (n2 != 0) = true := by simpa using h0
    clear hs ho hN hP o1 hn
    go_enter Tryz.func21, Tryz.ntmps21
    go_wp2_with (first | (go_at_call 37; refine (rcheck8_any h I _ _ i0 i1 j0 j1).mono ?_; rw [HS.out]; rintro e w1 ⟨rfl, hb1⟩; have Ym1 := Xm0.out.below hb1; have cm1 := Ym1.cells; have lm1 := Ym1.lt; have Xm1 := hidq (Ym1); have Ys1 := Xs0.out.below hb1; have cs1 := Ys1.facts; have ls1 := Ys1.lt; have Xs1 := hidq (Ys1); have Yz1 := Xz0.out.below hb1; have cz1 := Yz1.cells; have fz1 := Yz1.frozen; have lz1 := Yz1.lt; have Xz1 := hidq (Yz1); have UA1 := hidq (UA0.out.below hb1); have B1 := hidq (below_trans B0.out hb1); clear hb1 Ym1 Ys1 Yz1) | (go_at_call 20; refine (HO.out _ UA1.out).mono ?_; rintro e w2 ⟨rfl, hb2⟩; have Ym2 := Xm1.out.below hb2; have cm2 := Ym2.cells; have lm2 := Ym2.lt; have Xm2 := hidq (Ym2); have Ys2 := Xs1.out.below hb2; have cs2 := Ys2.facts; have ls2 := Ys2.lt; have Xs2 := hidq (Ys2); have Yz2 := Xz1.out.below hb2; have cz2 := Yz2.cells; have fz2 := Yz2.frozen; have lz2 := Yz2.lt; have Xz2 := hidq (Yz2); have UA2 := hidq (UA1.out.below hb2); have B2 := hidq (below_trans B1.out hb2); clear cm1 lm1 cs1 ls1 cz1 lz1 fz1; clear hb2 Ym2 Ys2 Yz2) | (go_at_call 38; refine (rnode13_eq HN.out i0 i1 _ UA2.out).mono ?_; rintro e w3 ⟨v3, rfl, ho3, hb3⟩; have Ym3 := Xm2.out.below hb3; have cm3 := Ym3.cells; have lm3 := Ym3.lt; have Xm3 := hidq ((Ym3).alloc (.cells #[.bool x1.1, .bool x1.2.1, .int .u64 (M.nu x1.2.2.1.1), .int .u64 (M.nu x1.2.2.1.2), .int .u64 (M.nu x1.2.2.2.1.1.1), .int .u64 (M.nu x1.2.2.2.1.1.2), .int .u64 (M.nu x1.2.2.2.1.2.1), .int .u64 (M.nu x1.2.2.2.1.2.2), .int .i64 x1.2.2.2.2] 29)); have Ys3 := Xs2.out.below hb3; have cs3 := Ys3.facts; have ls3 := Ys3.lt; have Xs3 := hidq ((Ys3).alloc (.cells #[.bool x1.1, .bool x1.2.1, .int .u64 (M.nu x1.2.2.1.1), .int .u64 (M.nu x1.2.2.1.2), .int .u64 (M.nu x1.2.2.2.1.1.1), .int .u64 (M.nu x1.2.2.2.1.1.2), .int .u64 (M.nu x1.2.2.2.1.2.1), .int .u64 (M.nu x1.2.2.2.1.2.2), .int .i64 x1.2.2.2.2] 29)); have Yz3 := Xz2.out.below hb3; have cz3 := Yz3.cells; have fz3 := Yz3.frozen; have lz3 := Yz3.lt; have Xz3 := hidq ((Yz3).alloc (.cells #[.bool x1.1, .bool x1.2.1, .int .u64 (M.nu x1.2.2.1.1), .int .u64 (M.nu x1.2.2.1.2), .int .u64 (M.nu x1.2.2.2.1.1.1), .int .u64 (M.nu x1.2.2.2.1.1.2), .int .u64 (M.nu x1.2.2.2.1.2.1), .int .u64 (M.nu x1.2.2.2.1.2.2), .int .i64 x1.2.2.2.2] 29)); have UA3 := hidq ((UA2.out.below hb3).alloc (.cells #[.bool x1.1, .bool x1.2.1, .int .u64 (M.nu x1.2.2.1.1), .int .u64 (M.nu x1.2.2.1.2), .int .u64 (M.nu x1.2.2.2.1.1.1), .int .u64 (M.nu x1.2.2.2.1.1.2), .int .u64 (M.nu x1.2.2.2.1.2.1), .int .u64 (M.nu x1.2.2.2.1.2.2), .int .i64 x1.2.2.2.2] 29)); have U13 := hidq ((ts_ofown ho3 K1.out).alloc (.cells #[.bool x1.1, .bool x1.2.1, .int .u64 (M.nu x1.2.2.1.1), .int .u64 (M.nu x1.2.2.1.2), .int .u64 (M.nu x1.2.2.2.1.1.1), .int .u64 (M.nu x1.2.2.2.1.1.2), .int .u64 (M.nu x1.2.2.2.1.2.1), .int .u64 (M.nu x1.2.2.2.1.2.2), .int .i64 x1.2.2.2.2] 29)); have Xa3 := hidq (Bx9.new w3 x1); have B3 := hidq (below_one (o := (.cells #[.bool x1.1, .bool x1.2.1, .int .u64 (M.nu x1.2.2.1.1), .int .u64 (M.nu x1.2.2.1.2), .int .u64 (M.nu x1.2.2.2.1.1.1), .int .u64 (M.nu x1.2.2.2.1.1.2), .int .u64 (M.nu x1.2.2.2.1.2.1), .int .u64 (M.nu x1.2.2.2.1.2.2), .int .i64 x1.2.2.2.2] 29)) (below_trans B2.out hb3)); clear ho3; clear cm2 lm2 cs2 ls2 cz2 lz2 fz2; clear hb3 Ym3 Ys3 Yz3) | (go_at_call 39; refine (rvpart_eq FX.out HP.out _ U13.out).mono ?_; rintro e w4 ⟨v4, rfl, ho4, hb4⟩; have Ym4 := Xm3.out.below hb4; have cm4 := Ym4.cells; have lm4 := Ym4.lt; have Xm4 := hidq ((Ym4).alloc (.cells #[.bool x2.1, .bool x2.2.1, .int .u64 (M.nu x2.2.2.1.1), .int .u64 (M.nu x2.2.2.1.2), .int .u64 (M.nu x2.2.2.2.1.1.1), .int .u64 (M.nu x2.2.2.2.1.1.2), .int .u64 (M.nu x2.2.2.2.1.2.1), .int .u64 (M.nu x2.2.2.2.1.2.2), .int .i64 x2.2.2.2.2] 29)); have Ys4 := Xs3.out.below hb4; have cs4 := Ys4.facts; have ls4 := Ys4.lt; have Xs4 := hidq ((Ys4).alloc (.cells #[.bool x2.1, .bool x2.2.1, .int .u64 (M.nu x2.2.2.1.1), .int .u64 (M.nu x2.2.2.1.2), .int .u64 (M.nu x2.2.2.2.1.1.1), .int .u64 (M.nu x2.2.2.2.1.1.2), .int .u64 (M.nu x2.2.2.2.1.2.1), .int .u64 (M.nu x2.2.2.2.1.2.2), .int .i64 x2.2.2.2.2] 29)); have Yz4 := Xz3.out.below hb4; have cz4 := Yz4.cells; have fz4 := Yz4.frozen; have lz4 := Yz4.lt; have Xz4 := hidq ((Yz4).alloc (.cells #[.bool x2.1, .bool x2.2.1, .int .u64 (M.nu x2.2.2.1.1), .int .u64 (M.nu x2.2.2.1.2), .int .u64 (M.nu x2.2.2.2.1.1.1), .int .u64 (M.nu x2.2.2.2.1.1.2), .int .u64 (M.nu x2.2.2.2.1.2.1), .int .u64 (M.nu x2.2.2.2.1.2.2), .int .i64 x2.2.2.2.2] 29)); have Ya4 := Xa3.out.below hb4; have ca4 := Ya4.cells; have la4 := Ya4.lt; have Xa4 := hidq ((Ya4).alloc (.cells #[.bool x2.1, .bool x2.2.1, .int .u64 (M.nu x2.2.2.1.1), .int .u64 (M.nu x2.2.2.1.2), .int .u64 (M.nu x2.2.2.2.1.1.1), .int .u64 (M.nu x2.2.2.2.1.1.2), .int .u64 (M.nu x2.2.2.2.1.2.1), .int .u64 (M.nu x2.2.2.2.1.2.2), .int .i64 x2.2.2.2.2] 29)); have UA4 := hidq ((UA3.out.below hb4).alloc (.cells #[.bool x2.1, .bool x2.2.1, .int .u64 (M.nu x2.2.2.1.1), .int .u64 (M.nu x2.2.2.1.2), .int .u64 (M.nu x2.2.2.2.1.1.1), .int .u64 (M.nu x2.2.2.2.1.1.2), .int .u64 (M.nu x2.2.2.2.1.2.1), .int .u64 (M.nu x2.2.2.2.1.2.2), .int .i64 x2.2.2.2.2] 29)); have U14 := hidq ((U13.out.below hb4).alloc (.cells #[.bool x2.1, .bool x2.2.1, .int .u64 (M.nu x2.2.2.1.1), .int .u64 (M.nu x2.2.2.1.2), .int .u64 (M.nu x2.2.2.2.1.1.1), .int .u64 (M.nu x2.2.2.2.1.1.2), .int .u64 (M.nu x2.2.2.2.1.2.1), .int .u64 (M.nu x2.2.2.2.1.2.2), .int .i64 x2.2.2.2.2] 29)); have Xb4 := hidq (Bx9.new w4 x2); have B4 := hidq (below_one (o := (.cells #[.bool x2.1, .bool x2.2.1, .int .u64 (M.nu x2.2.2.1.1), .int .u64 (M.nu x2.2.2.1.2), .int .u64 (M.nu x2.2.2.2.1.1.1), .int .u64 (M.nu x2.2.2.2.1.1.2), .int .u64 (M.nu x2.2.2.2.1.2.1), .int .u64 (M.nu x2.2.2.2.1.2.2), .int .i64 x2.2.2.2.2] 29)) (below_trans B3.out hb4)); have LZ4 := hidq (Xz3.out.lt); have ON4 := hidq ho4; have BN4 := hidq (below_trans B3.out hb4); clear ho4; clear cm3 lm3 cs3 ls3 cz3 lz3 fz3; clear hb4 Ym4 Ys4 Yz4 Ya4))
    refine bodyPost_ret (v := .tuple #[.agg #[.bool _, .bool _, .int .u64 _, .int .u64 _, .int .u64 _, .int .u64 _, .int .u64 _, .int .u64 _, .int .i64 _], _, .int .i64 _]) (by simp [results, go_sem, cz4, lz4, Tryz.results21]) rfl ⟨_, rfl, own_lowerq (own_keptq (own_set9 ON4.out LZ4.out _ _ _ _ _ _ _ _ _) (below_one (Below.refl _ _))) (by have := LZ4.out; omega), below_one (below_set9 BN4.out (by omega) _ _ _ _ _ _ _ _ _)⟩
set_option maxRecDepth 100000 in
set_option maxHeartbeats 2000000 in
theorem rlab_3 {A : List M.Tm} {h : Int} {m : M.Val} {I J : Int} (hs : M.subB h I J = true) (ho : M.opn A m = true) {x1 x2 x : M.Val} {L1 L2 L : List M.Tm} {n : Int} (hN : M.nodeA A h m I = (x1, L1, 0)) (o1 : M.opn L1 x1 = true) (hP : M.partA L1 x1 2 = (x2, L2, 0)) (o2 : M.opn L2 x2 = true) (hJ : ¬ J = 0) (hW : M.walkA L2 x2 (M.pathL I J) = (x, L, n)) (i0 : 0 ≤ I) (i1 : I ≤ 18446744073709551615) (j0 : 0 ≤ J) (j1 : J ≤ 18446744073709551615) {vl : Value} (w : World) (u : Ts w vl A) :
    Calls Tryz.prog 21 #[vl, .int .i64 h, (.agg #[.bool m.1, .bool m.2.1, .int .u64 (M.nu m.2.2.1.1), .int .u64 (M.nu m.2.2.1.2), .int .u64 (M.nu m.2.2.2.1.1.1), .int .u64 (M.nu m.2.2.2.1.1.2), .int .u64 (M.nu m.2.2.2.1.2.1), .int .u64 (M.nu m.2.2.2.1.2.2), .int .i64 m.2.2.2.2]), .agg #[.int .u64 I, .int .u64 J]] w fun e w' => ∃ v', e = .returned (.tuple #[(.agg #[.bool x.1, .bool x.2.1, .int .u64 (M.nu x.2.2.1.1), .int .u64 (M.nu x.2.2.1.2), .int .u64 (M.nu x.2.2.2.1.1.1), .int .u64 (M.nu x.2.2.2.1.1.2), .int .u64 (M.nu x.2.2.2.1.2.1), .int .u64 (M.nu x.2.2.2.1.2.2), .int .i64 x.2.2.2.2]), v', .int .i64 n]) ∧ w'.ownsRow w.heap.size 39 3 v' L.length (elTm.cells L) ∧ Below w.heap.size w w' := by
  have Xm0 := hidq (((Bx9.new w m).alloc (.cells #[.int .u64 I, .int .u64 J] 46)).alloc (.cells #[.bool false, .bool false, .int .u64 0, .int .u64 0, .int .u64 0, .int .u64 0, .int .u64 0, .int .u64 0, .int .i64 0] 29))
  have Xs0 := hidq ((Bi.new1 w (.cells #[.bool m.1, .bool m.2.1, .int .u64 (M.nu m.2.2.1.1), .int .u64 (M.nu m.2.2.1.2), .int .u64 (M.nu m.2.2.2.1.1.1), .int .u64 (M.nu m.2.2.2.1.1.2), .int .u64 (M.nu m.2.2.2.1.2.1), .int .u64 (M.nu m.2.2.2.1.2.2), .int .i64 m.2.2.2.2] 29) 46 I J).alloc (.cells #[.bool false, .bool false, .int .u64 0, .int .u64 0, .int .u64 0, .int .u64 0, .int .u64 0, .int .u64 0, .int .i64 0] 29))
  have Xz0 := hidq (zbox ((w.alloc (.cells #[.bool m.1, .bool m.2.1, .int .u64 (M.nu m.2.2.1.1), .int .u64 (M.nu m.2.2.1.2), .int .u64 (M.nu m.2.2.2.1.1.1), .int .u64 (M.nu m.2.2.2.1.1.2), .int .u64 (M.nu m.2.2.2.1.2.1), .int .u64 (M.nu m.2.2.2.1.2.2), .int .i64 m.2.2.2.2] 29)).alloc (.cells #[.int .u64 I, .int .u64 J] 46)))
  rw [World.size_alloc, World.size_alloc] at Xz0
  have UA0 := hidq (((u.alloc (.cells #[.bool m.1, .bool m.2.1, .int .u64 (M.nu m.2.2.1.1), .int .u64 (M.nu m.2.2.1.2), .int .u64 (M.nu m.2.2.2.1.1.1), .int .u64 (M.nu m.2.2.2.1.1.2), .int .u64 (M.nu m.2.2.2.1.2.1), .int .u64 (M.nu m.2.2.2.1.2.2), .int .i64 m.2.2.2.2] 29)).alloc (.cells #[.int .u64 I, .int .u64 J] 46)).alloc (.cells #[.bool false, .bool false, .int .u64 0, .int .u64 0, .int .u64 0, .int .u64 0, .int .u64 0, .int .u64 0, .int .i64 0] 29))
  have B0 := hidq (show Below w.heap.size w (((w.alloc (.cells #[.bool m.1, .bool m.2.1, .int .u64 (M.nu m.2.2.1.1), .int .u64 (M.nu m.2.2.1.2), .int .u64 (M.nu m.2.2.2.1.1.1), .int .u64 (M.nu m.2.2.2.1.1.2), .int .u64 (M.nu m.2.2.2.1.2.1), .int .u64 (M.nu m.2.2.2.1.2.2), .int .i64 m.2.2.2.2] 29)).alloc (.cells #[.int .u64 I, .int .u64 J] 46)).alloc (.cells #[.bool false, .bool false, .int .u64 0, .int .u64 0, .int .u64 0, .int .u64 0, .int .u64 0, .int .u64 0, .int .i64 0] 29)) from below_one (below_one (below_one (Below.refl _ _))))
  have cm0 := Xm0.out.cells
  have cs0 := Xs0.out.facts
  clear u
  have HS := hidq (M.sub_yes hs)
  have HO := hidq (fun W (u : Ts W vl A) => ropn_eq ho W u)
  have HN := hidq hN
  have HP := hidq hP
  have FX := hidq (opn_fit o1)
  have K1 := hidq (M.opn_iff.1 o1).1
  have K2 := hidq (M.opn_iff.1 o2).1
  have HW := hidq hW
  have hjb : (J == 0) = false := beq_eq_false_iff_ne.2 hJ
  have P1 := hidq (M.sub_of hs).1
  have P2 := hidq (M.sub_in hs hJ).1
  have P3 := hidq (M.sub_in hs hJ).2.1
  clear hs ho hN hP o1 o2 hW
  go_enter Tryz.func21, Tryz.ntmps21
  go_wp2_with (first | (go_at_call 37; refine (rcheck8_any h I _ _ i0 i1 j0 j1).mono ?_; rw [HS.out]; rintro e w1 ⟨rfl, hb1⟩; have Ym1 := Xm0.out.below hb1; have cm1 := Ym1.cells; have lm1 := Ym1.lt; have Xm1 := hidq (Ym1); have Ys1 := Xs0.out.below hb1; have cs1 := Ys1.facts; have ls1 := Ys1.lt; have Xs1 := hidq (Ys1); have Yz1 := Xz0.out.below hb1; have cz1 := Yz1.cells; have fz1 := Yz1.frozen; have lz1 := Yz1.lt; have Xz1 := hidq (Yz1); have UA1 := hidq (UA0.out.below hb1); have B1 := hidq (below_trans B0.out hb1); clear hb1 Ym1 Ys1 Yz1) | (go_at_call 20; refine (HO.out _ UA1.out).mono ?_; rintro e w2 ⟨rfl, hb2⟩; have Ym2 := Xm1.out.below hb2; have cm2 := Ym2.cells; have lm2 := Ym2.lt; have Xm2 := hidq (Ym2); have Ys2 := Xs1.out.below hb2; have cs2 := Ys2.facts; have ls2 := Ys2.lt; have Xs2 := hidq (Ys2); have Yz2 := Xz1.out.below hb2; have cz2 := Yz2.cells; have fz2 := Yz2.frozen; have lz2 := Yz2.lt; have Xz2 := hidq (Yz2); have UA2 := hidq (UA1.out.below hb2); have B2 := hidq (below_trans B1.out hb2); clear cm1 lm1 cs1 ls1 cz1 lz1 fz1; clear hb2 Ym2 Ys2 Yz2) | (go_at_call 38; refine (rnode13_eq HN.out i0 i1 _ UA2.out).mono ?_; rintro e w3 ⟨v3, rfl, ho3, hb3⟩; have Ym3 := Xm2.out.below hb3; have cm3 := Ym3.cells; have lm3 := Ym3.lt; have Xm3 := hidq ((Ym3).alloc (.cells #[.bool x1.1, .bool x1.2.1, .int .u64 (M.nu x1.2.2.1.1), .int .u64 (M.nu x1.2.2.1.2), .int .u64 (M.nu x1.2.2.2.1.1.1), .int .u64 (M.nu x1.2.2.2.1.1.2), .int .u64 (M.nu x1.2.2.2.1.2.1), .int .u64 (M.nu x1.2.2.2.1.2.2), .int .i64 x1.2.2.2.2] 29)); have Ys3 := Xs2.out.below hb3; have cs3 := Ys3.facts; have ls3 := Ys3.lt; have Xs3 := hidq ((Ys3).alloc (.cells #[.bool x1.1, .bool x1.2.1, .int .u64 (M.nu x1.2.2.1.1), .int .u64 (M.nu x1.2.2.1.2), .int .u64 (M.nu x1.2.2.2.1.1.1), .int .u64 (M.nu x1.2.2.2.1.1.2), .int .u64 (M.nu x1.2.2.2.1.2.1), .int .u64 (M.nu x1.2.2.2.1.2.2), .int .i64 x1.2.2.2.2] 29)); have Yz3 := Xz2.out.below hb3; have cz3 := Yz3.cells; have fz3 := Yz3.frozen; have lz3 := Yz3.lt; have Xz3 := hidq ((Yz3).alloc (.cells #[.bool x1.1, .bool x1.2.1, .int .u64 (M.nu x1.2.2.1.1), .int .u64 (M.nu x1.2.2.1.2), .int .u64 (M.nu x1.2.2.2.1.1.1), .int .u64 (M.nu x1.2.2.2.1.1.2), .int .u64 (M.nu x1.2.2.2.1.2.1), .int .u64 (M.nu x1.2.2.2.1.2.2), .int .i64 x1.2.2.2.2] 29)); have UA3 := hidq ((UA2.out.below hb3).alloc (.cells #[.bool x1.1, .bool x1.2.1, .int .u64 (M.nu x1.2.2.1.1), .int .u64 (M.nu x1.2.2.1.2), .int .u64 (M.nu x1.2.2.2.1.1.1), .int .u64 (M.nu x1.2.2.2.1.1.2), .int .u64 (M.nu x1.2.2.2.1.2.1), .int .u64 (M.nu x1.2.2.2.1.2.2), .int .i64 x1.2.2.2.2] 29)); have U13 := hidq ((ts_ofown ho3 K1.out).alloc (.cells #[.bool x1.1, .bool x1.2.1, .int .u64 (M.nu x1.2.2.1.1), .int .u64 (M.nu x1.2.2.1.2), .int .u64 (M.nu x1.2.2.2.1.1.1), .int .u64 (M.nu x1.2.2.2.1.1.2), .int .u64 (M.nu x1.2.2.2.1.2.1), .int .u64 (M.nu x1.2.2.2.1.2.2), .int .i64 x1.2.2.2.2] 29)); have Xa3 := hidq (Bx9.new w3 x1); have B3 := hidq (below_one (o := (.cells #[.bool x1.1, .bool x1.2.1, .int .u64 (M.nu x1.2.2.1.1), .int .u64 (M.nu x1.2.2.1.2), .int .u64 (M.nu x1.2.2.2.1.1.1), .int .u64 (M.nu x1.2.2.2.1.1.2), .int .u64 (M.nu x1.2.2.2.1.2.1), .int .u64 (M.nu x1.2.2.2.1.2.2), .int .i64 x1.2.2.2.2] 29)) (below_trans B2.out hb3)); clear ho3; clear cm2 lm2 cs2 ls2 cz2 lz2 fz2; clear hb3 Ym3 Ys3 Yz3) | (go_at_call 39; refine (rvpart_eq FX.out HP.out _ U13.out).mono ?_; rintro e w4 ⟨v4, rfl, ho4, hb4⟩; have Ym4 := Xm3.out.below hb4; have cm4 := Ym4.cells; have lm4 := Ym4.lt; have Xm4 := hidq ((Ym4).alloc (.cells #[.bool x2.1, .bool x2.2.1, .int .u64 (M.nu x2.2.2.1.1), .int .u64 (M.nu x2.2.2.1.2), .int .u64 (M.nu x2.2.2.2.1.1.1), .int .u64 (M.nu x2.2.2.2.1.1.2), .int .u64 (M.nu x2.2.2.2.1.2.1), .int .u64 (M.nu x2.2.2.2.1.2.2), .int .i64 x2.2.2.2.2] 29)); have Ys4 := Xs3.out.below hb4; have cs4 := Ys4.facts; have ls4 := Ys4.lt; have Xs4 := hidq ((Ys4).alloc (.cells #[.bool x2.1, .bool x2.2.1, .int .u64 (M.nu x2.2.2.1.1), .int .u64 (M.nu x2.2.2.1.2), .int .u64 (M.nu x2.2.2.2.1.1.1), .int .u64 (M.nu x2.2.2.2.1.1.2), .int .u64 (M.nu x2.2.2.2.1.2.1), .int .u64 (M.nu x2.2.2.2.1.2.2), .int .i64 x2.2.2.2.2] 29)); have Yz4 := Xz3.out.below hb4; have cz4 := Yz4.cells; have fz4 := Yz4.frozen; have lz4 := Yz4.lt; have Xz4 := hidq ((Yz4).alloc (.cells #[.bool x2.1, .bool x2.2.1, .int .u64 (M.nu x2.2.2.1.1), .int .u64 (M.nu x2.2.2.1.2), .int .u64 (M.nu x2.2.2.2.1.1.1), .int .u64 (M.nu x2.2.2.2.1.1.2), .int .u64 (M.nu x2.2.2.2.1.2.1), .int .u64 (M.nu x2.2.2.2.1.2.2), .int .i64 x2.2.2.2.2] 29)); have Ya4 := Xa3.out.below hb4; have ca4 := Ya4.cells; have la4 := Ya4.lt; have Xa4 := hidq ((Ya4).alloc (.cells #[.bool x2.1, .bool x2.2.1, .int .u64 (M.nu x2.2.2.1.1), .int .u64 (M.nu x2.2.2.1.2), .int .u64 (M.nu x2.2.2.2.1.1.1), .int .u64 (M.nu x2.2.2.2.1.1.2), .int .u64 (M.nu x2.2.2.2.1.2.1), .int .u64 (M.nu x2.2.2.2.1.2.2), .int .i64 x2.2.2.2.2] 29)); have UA4 := hidq ((UA3.out.below hb4).alloc (.cells #[.bool x2.1, .bool x2.2.1, .int .u64 (M.nu x2.2.2.1.1), .int .u64 (M.nu x2.2.2.1.2), .int .u64 (M.nu x2.2.2.2.1.1.1), .int .u64 (M.nu x2.2.2.2.1.1.2), .int .u64 (M.nu x2.2.2.2.1.2.1), .int .u64 (M.nu x2.2.2.2.1.2.2), .int .i64 x2.2.2.2.2] 29)); have U14 := hidq ((U13.out.below hb4).alloc (.cells #[.bool x2.1, .bool x2.2.1, .int .u64 (M.nu x2.2.2.1.1), .int .u64 (M.nu x2.2.2.1.2), .int .u64 (M.nu x2.2.2.2.1.1.1), .int .u64 (M.nu x2.2.2.2.1.1.2), .int .u64 (M.nu x2.2.2.2.1.2.1), .int .u64 (M.nu x2.2.2.2.1.2.2), .int .i64 x2.2.2.2.2] 29)); have Xb4 := hidq (Bx9.new w4 x2); have B4 := hidq (below_one (o := (.cells #[.bool x2.1, .bool x2.2.1, .int .u64 (M.nu x2.2.2.1.1), .int .u64 (M.nu x2.2.2.1.2), .int .u64 (M.nu x2.2.2.2.1.1.1), .int .u64 (M.nu x2.2.2.2.1.1.2), .int .u64 (M.nu x2.2.2.2.1.2.1), .int .u64 (M.nu x2.2.2.2.1.2.2), .int .i64 x2.2.2.2.2] 29)) (below_trans B3.out hb4)); have LZ4 := hidq (Xz3.out.lt); have ON4 := hidq ho4; have BN4 := hidq (below_trans B3.out hb4); have U24 := hidq ((ts_ofown ho4 K2.out).alloc (.cells #[.bool x2.1, .bool x2.2.1, .int .u64 (M.nu x2.2.2.1.1), .int .u64 (M.nu x2.2.2.1.2), .int .u64 (M.nu x2.2.2.2.1.1.1), .int .u64 (M.nu x2.2.2.2.1.1.2), .int .u64 (M.nu x2.2.2.2.1.2.1), .int .u64 (M.nu x2.2.2.2.1.2.2), .int .i64 x2.2.2.2.2] 29)); clear ho4; clear cm3 lm3 cs3 ls3 cz3 lz3 fz3; clear hb4 Ym4 Ys4 Yz4 Ya4) | (go_at_call 40; refine (rpath_is h I J _ P1.out P2.out P3.out).mono ?_; rintro e w5 ⟨v5, rfl, i5, hb5⟩; have Ym5 := Xm4.out.below hb5; have cm5 := Ym5.cells; have lm5 := Ym5.lt; have Xm5 := hidq (Ym5); have Ys5 := Xs4.out.below hb5; have cs5 := Ys5.facts; have ls5 := Ys5.lt; have Xs5 := hidq (Ys5); have Yz5 := Xz4.out.below hb5; have cz5 := Yz5.cells; have fz5 := Yz5.frozen; have lz5 := Yz5.lt; have Xz5 := hidq (Yz5); have Ya5 := Xa4.out.below hb5; have ca5 := Ya5.cells; have la5 := Ya5.lt; have Xa5 := hidq (Ya5); have Yb5 := Xb4.out.below hb5; have cb5 := Yb5.cells; have lb5 := Yb5.lt; have Xb5 := hidq (Yb5); have UA5 := hidq (UA4.out.below hb5); have U15 := hidq (U14.out.below hb5); have U25 := hidq (U24.out.below hb5); have IP5 := hidq (i5); have B5 := hidq (below_trans B4.out hb5); clear i5; clear ca4 la4 cm4 lm4 cs4 ls4 cz4 lz4 fz4; clear hb5 Ym5 Ys5 Yz5 Ya5 Yb5) | (go_at_call 41; refine (rwalk_eq HW.out _ U25.out IP5.out).mono ?_; rintro e w6 ⟨v6, rfl, ho6, hb6⟩; have Ym6 := Xm5.out.below hb6; have cm6 := Ym6.cells; have lm6 := Ym6.lt; have Xm6 := hidq (Ym6); have Ys6 := Xs5.out.below hb6; have cs6 := Ys6.facts; have ls6 := Ys6.lt; have Xs6 := hidq (Ys6); have Yz6 := Xz5.out.below hb6; have cz6 := Yz6.cells; have fz6 := Yz6.frozen; have lz6 := Yz6.lt; have Xz6 := hidq (Yz6); have Ya6 := Xa5.out.below hb6; have ca6 := Ya6.cells; have la6 := Ya6.lt; have Xa6 := hidq (Ya6); have Yb6 := Xb5.out.below hb6; have cb6 := Yb6.cells; have lb6 := Yb6.lt; have Xb6 := hidq (Yb6); have UA6 := hidq (UA5.out.below hb6); have U16 := hidq (U15.out.below hb6); have U26 := hidq (U25.out.below hb6); have IP6 := hidq (IP5.out.below hb6); have B6 := hidq (below_trans B5.out hb6); have LZ6 := hidq (Xz5.out.lt); have O6 := hidq ho6; clear ho6; clear ca5 la5 cb5 lb5 cm5 lm5 cs5 ls5 cz5 lz5 fz5; clear hb6 Ym6 Ys6 Yz6 Ya6 Yb6))
  refine bodyPost_ret (v := .tuple #[.agg #[.bool _, .bool _, .int .u64 _, .int .u64 _, .int .u64 _, .int .u64 _, .int .u64 _, .int .u64 _, .int .i64 _], _, .int .i64 _]) (by simp [results, go_sem, cz6, Tryz.results21]) rfl ⟨_, rfl, own_lowerq (own_set9 O6.out LZ6.out _ _ _ _ _ _ _ _ _) (by have := LZ6.out; omega), below_set9 B6.out (by omega) _ _ _ _ _ _ _ _ _⟩
set_option maxRecDepth 100000 in
theorem rlab_eq {A : List M.Tm} {h : Int} {m : M.Val} {I J : Int} {x : M.Val} {L : List M.Tm} {n : Int} (hx : M.labA A h m I J = (x, L, n)) (i0 : 0 ≤ I) (i1 : I ≤ 18446744073709551615) (j0 : 0 ≤ J) (j1 : J ≤ 18446744073709551615) {vl : Value} (w : World) (u : Ts w vl A) :
    Calls Tryz.prog 21 #[vl, .int .i64 h, (.agg #[.bool m.1, .bool m.2.1, .int .u64 (M.nu m.2.2.1.1), .int .u64 (M.nu m.2.2.1.2), .int .u64 (M.nu m.2.2.2.1.1.1), .int .u64 (M.nu m.2.2.2.1.1.2), .int .u64 (M.nu m.2.2.2.1.2.1), .int .u64 (M.nu m.2.2.2.1.2.2), .int .i64 m.2.2.2.2]), .agg #[.int .u64 I, .int .u64 J]] w fun e w' => ∃ v', e = .returned (.tuple #[(.agg #[.bool x.1, .bool x.2.1, .int .u64 (M.nu x.2.2.1.1), .int .u64 (M.nu x.2.2.1.2), .int .u64 (M.nu x.2.2.2.1.1.1), .int .u64 (M.nu x.2.2.2.1.1.2), .int .u64 (M.nu x.2.2.2.1.2.1), .int .u64 (M.nu x.2.2.2.1.2.2), .int .i64 x.2.2.2.2]), v', .int .i64 n]) ∧ w'.ownsRow w.heap.size 39 3 v' L.length (elTm.cells L) ∧ Below w.heap.size w w' := by
  by_cases hh : M.subB h I J = true ∧ M.opn A m = true
  · obtain ⟨hs, ho⟩ := hh
    obtain ⟨⟨x1, L1, n1⟩, hN⟩ : ∃ q, M.nodeA A h m I = q := ⟨_, rfl⟩
    have hI := (M.sub_of hs).1
    have hlab : M.labA A h m I J = M.andW (M.andP (x1, L1, n1) 2) (M.sidesL I J) := by
      unfold M.labA
      rw [if_pos (by rw [hs, ho]; rfl), hN]
    rw [hlab] at hx
    by_cases h1 : n1 = 0
    · subst h1
      have hR : M.wkR (M.pathL 1 I) A m = (x1, L1, 0) := by
        rw [← hN]; unfold M.nodeA; rw [if_pos (by rw [hI, ho]; rfl)]
      have o1 := (M.wkR_facts _ ho M.opn3_path hR).1
      obtain ⟨⟨x2, L2, n2⟩, hP⟩ : ∃ q, M.partA L1 x1 2 = q := ⟨_, rfl⟩
      rw [show M.andP (x1, L1, 0) 2 = (x2, L2, n2) by unfold M.andP; rw [if_pos rfl]; exact hP] at hx
      by_cases h2 : n2 = 0
      · subst h2
        have o2 := (M.part_step o1 (by decide) (by decide) hP).1
        by_cases hJ : J = 0
        · rw [show M.andW (x2, L2, 0) (M.sidesL I J) = (x2, L2, 0) by unfold M.sidesL; rw [if_pos hJ]; exact M.andW_nil (fun h => absurd rfl h)] at hx
          simp only [Prod.mk.injEq] at hx
          obtain ⟨rfl, rfl, rfl⟩ := hx
          exact rlab_2 hs ho hN o1 hP (.inr hJ) i0 i1 j0 j1 w u
        · refine rlab_3 hs ho hN o1 hP o2 hJ ?_ i0 i1 j0 j1 w u
          rw [walk_yes o2 (M.path_sd (M.sub_in hs hJ).1), ← hx]
          unfold M.andW M.sidesL
          rw [if_pos rfl, if_neg hJ]
      · rw [show M.andW (x2, L2, n2) (M.sidesL I J) = (M.zV, [], n2) by unfold M.andW; rw [if_neg h2]] at hx
        simp only [Prod.mk.injEq] at hx
        obtain ⟨rfl, rfl, rfl⟩ := hx
        have e := M.part_err (A := L1) (v := x1) (i := 2) (by rw [hP]; exact h2)
        rw [hP] at e
        simp only [Prod.mk.injEq] at e
        obtain ⟨rfl, rfl, -⟩ := e
        exact rlab_2 hs ho hN o1 hP (.inl h2) i0 i1 j0 j1 w u
    · rw [show M.andP (x1, L1, n1) 2 = (M.zV, [], n1) by unfold M.andP; rw [if_neg h1], show M.andW (M.zV, [], n1) (M.sidesL I J) = (M.zV, [], n1) by unfold M.andW; rw [if_neg h1]] at hx
      simp only [Prod.mk.injEq] at hx
      obtain ⟨rfl, rfl, rfl⟩ := hx
      exact rlab_1 hs ho hN h1 i0 i1 j0 j1 w u
  · rw [M.lab_no hh] at hx
    simp only [Prod.mk.injEq] at hx
    obtain ⟨rfl, rfl, rfl⟩ := hx
    exact rlab_no hh i0 i1 j0 j1 w u
end Go.Proofs.YthmiekinjfaflaaGreat
namespace Go.Proofs.YthmiekinjfaflaaGreat
open Go.RowKit
set_option maxRecDepth 100000 in
set_option maxHeartbeats 1000000 in
theorem rscheme_any (h k : Int) (w : World) : Calls Tryz.prog 65 #[.int .i64 h, .int .i64 k] w fun e w' => e = .returned (.bool (M.htB h && M.kB k)) ∧ w' = w := by
  unfold M.kB
  cases hh : M.htB h with
  | false =>
    go_enter Tryz.func65, Tryz.ntmps65
    go_wp2_with (first | (go_at_call 55; refine (may_any h 1 _ (by omega) (by omega)).mono ?_; rw [M.ok_one, hh]; rintro e w' ⟨rfl, hw⟩; subst w'))
    go_ret
    exact ⟨rfl, rfl⟩
  | true =>
    by_cases c1 : 1 ≤ k
    · rw [decide_eq_true c1]
      go_enter Tryz.func65, Tryz.ntmps65
      go_wp2_with (first | (go_at_call 55; refine (may_any h 1 _ (by omega) (by omega)).mono ?_; rw [M.ok_one, hh]; rintro e w' ⟨rfl, hw⟩; subst w'))
      go_ret
      exact ⟨rfl, rfl⟩
    · rw [decide_eq_false c1]
      go_enter Tryz.func65, Tryz.ntmps65
      go_wp2_with (first | (go_at_call 55; refine (may_any h 1 _ (by omega) (by omega)).mono ?_; rw [M.ok_one, hh]; rintro e w' ⟨rfl, hw⟩; subst w'))
      go_ret
      exact ⟨rfl, rfl⟩
set_option maxRecDepth 100000 in
set_option maxHeartbeats 2000000 in
theorem rlmay_any (h k I J : Int) (w : World) (h0 : 0 ≤ I) (h1 : I ≤ 18446744073709551615) (h2 : 0 ≤ J) (h3 : J ≤ 18446744073709551615) :
    Calls Tryz.prog 42 #[.int .i64 h, .int .i64 k, .agg #[.int .u64 I, .int .u64 J]] w fun e w' => e = .returned (.tuple #[.bool (M.myV h k I J), .int .i64 (M.myE h k I J)]) ∧ Below w.heap.size w w' := by
  have HA := hidq (fun o => (Below.refl _ w).alloc (Nat.le_refl w.heap.size) o)
  have hX := Bi.new w 46 I J
  obtain ⟨X0a, X0b⟩ := hX.facts
  cases hk : M.kB k with
  | false =>
    rw [show M.myV h k I J = false by unfold M.myV; rw [hk]; rfl, show M.myE h k I J = 1 by unfold M.myE; rw [hk]; rfl]
    have hsc : (M.htB h && M.kB k) = false := by rw [hk, Bool.and_false]
    go_enter Tryz.func42, Tryz.ntmps42
    go_wp2_with (first | (go_at_call 65; refine (rscheme_any h _ _).mono ?_; rw [hsc]; rintro e w' ⟨rfl, hw⟩; subst w'))
    go_ret2
    exact ⟨rfl, HA.out _⟩
  | true =>
    cases hs : M.subB h I J with
    | false =>
      rw [show M.myV h k I J = false by unfold M.myV; rw [hs, Bool.and_false]; rfl, show M.myE h k I J = 1 by unfold M.myE; rw [hs, Bool.and_false]; rfl]
      have hse := M.subE_no hs
      cases hh : M.htB h with
      | false =>
        have hsc : (M.htB h && M.kB k) = false := by rw [hh]; rfl
        go_enter Tryz.func42, Tryz.ntmps42
        go_wp2_with (first | (go_at_call 65; refine (rscheme_any h _ _).mono ?_; rw [hsc]; rintro e w' ⟨rfl, hw⟩; subst w'))
        go_ret2
        exact ⟨rfl, HA.out _⟩
      | true =>
        have hsc : (M.htB h && M.kB k) = true := by rw [hh, hk]; rfl
        go_enter Tryz.func42, Tryz.ntmps42
        go_wp2_with (first | (go_at_call 65; refine (rscheme_any h _ _).mono ?_; rw [hsc]; rintro e w' ⟨rfl, hw⟩; subst w') | (go_at_call 37; refine (rcheck8_any h I J _ h0 h1 h2 h3).mono ?_; rw [hse]; rintro e w1 ⟨rfl, hb1⟩; have X1 := (Bi.new w 46 I J).below hb1; obtain ⟨X1a, X1b⟩ := X1.facts; have hB1 := below_trans (HA.out _) hb1))
        go_ret2
        exact ⟨rfl, hB1⟩
    | true =>
      have hse := M.subE_yes hs
      have hh : M.htB h = true := by have := M.ok_of (M.sub_of hs).1; exact M.ht_mk this.1 this.2.1
      have hsc : (M.htB h && M.kB k) = true := by rw [hh, hk]; rfl
      unfold M.myV M.myE
      rw [hk, hs]
      rcases M.kB_of hk with rfl | rfl | rfl
      · rw [if_pos rfl]
        by_cases hJ : J = 0
        · rw [decide_eq_true hJ]
          subst hJ
          go_enter Tryz.func42, Tryz.ntmps42
          go_wp2_with (first | (go_at_call 65; refine (rscheme_any h _ _).mono ?_; rw [hsc]; rintro e w' ⟨rfl, hw⟩; subst w') | (go_at_call 37; refine (rcheck8_any h I _ _ h0 h1 (by omega) (by omega)).mono ?_; rw [hse]; rintro e w1 ⟨rfl, hb1⟩; have X1 := (Bi.new w 46 I _).below hb1; obtain ⟨X1a, X1b⟩ := X1.facts; have hB1 := below_trans (HA.out _) hb1))
          go_ret2
          exact ⟨rfl, hB1⟩
        · rw [decide_eq_false hJ]
          have hJb : (J == 0) = false := by rw [beq_eq_false_iff_ne]; exact hJ
          go_enter Tryz.func42, Tryz.ntmps42
          go_wp2_with (first | (go_at_call 65; refine (rscheme_any h _ _).mono ?_; rw [hsc]; rintro e w' ⟨rfl, hw⟩; subst w') | (go_at_call 37; refine (rcheck8_any h I J _ h0 h1 h2 h3).mono ?_; rw [hse]; rintro e w1 ⟨rfl, hb1⟩; have X1 := (Bi.new w 46 I J).below hb1; obtain ⟨X1a, X1b⟩ := X1.facts; have hB1 := below_trans (HA.out _) hb1))
          go_ret2
          exact ⟨rfl, hB1⟩
      · rw [if_neg (show ¬ (2 : Int) = 1 by decide), if_pos (rfl : (2 : Int) = 2)]
        obtain ⟨r, hr⟩ : ∃ r, decide (I = 1) = r := ⟨_, rfl⟩
        have hr' : (I == 1) = r := hr
        rw [hr]
        by_cases hJ : J = 0
        · rw [decide_eq_true hJ]
          subst hJ
          clear hr
          go_enter Tryz.func42, Tryz.ntmps42
          go_wp2_with (first | (go_at_call 65; refine (rscheme_any h _ _).mono ?_; rw [hsc]; rintro e w' ⟨rfl, hw⟩; subst w') | (go_at_call 37; refine (rcheck8_any h I _ _ h0 h1 (by omega) (by omega)).mono ?_; rw [hse]; rintro e w1 ⟨rfl, hb1⟩; have X1 := (Bi.new w 46 I _).below hb1; obtain ⟨X1a, X1b⟩ := X1.facts; have hB1 := below_trans (HA.out _) hb1))
          go_ret2
          exact ⟨rfl, hB1⟩
        · rw [decide_eq_false hJ]
          have hJb : (J == 0) = false := by rw [beq_eq_false_iff_ne]; exact hJ
          clear hr
          go_enter Tryz.func42, Tryz.ntmps42
          go_wp2_with (first | (go_at_call 65; refine (rscheme_any h _ _).mono ?_; rw [hsc]; rintro e w' ⟨rfl, hw⟩; subst w') | (go_at_call 37; refine (rcheck8_any h I J _ h0 h1 h2 h3).mono ?_; rw [hse]; rintro e w1 ⟨rfl, hb1⟩; have X1 := (Bi.new w 46 I J).below hb1; obtain ⟨X1a, X1b⟩ := X1.facts; have hB1 := below_trans (HA.out _) hb1))
          go_ret2
          exact ⟨rfl, hB1⟩
      · rw [if_neg (show ¬ (3 : Int) = 1 by decide), if_neg (show ¬ (3 : Int) = 2 by decide)]
        have huv : M.useV h I J = M.useB h I J := by unfold M.useV; rw [hs]; rfl
        generalize M.useB h I J = r at *
        go_enter Tryz.func42, Tryz.ntmps42
        go_wp2_with (first | (go_at_call 65; refine (rscheme_any h _ _).mono ?_; rw [hsc]; rintro e w' ⟨rfl, hw⟩; subst w') | (go_at_call 37; refine (rcheck8_any h I J _ h0 h1 h2 h3).mono ?_; rw [hse]; rintro e w1 ⟨rfl, hb1⟩; have X1 := (Bi.new w 46 I J).below hb1; obtain ⟨X1a, X1b⟩ := X1.facts; have hB1 := below_trans (HA.out _) hb1) | (go_at_call 35; refine (ruseful_any h I J _ h0 h1 h2 h3).mono ?_; rw [hse, huv]; rintro e w2 ⟨rfl, hb2⟩; have hB2 := below_trans hB1 hb2))
        go_ret2
        exact ⟨rfl, hB2⟩
end Go.Proofs.YthmiekinjfaflaaGreat
namespace Go.Proofs.YthmiekinjfaflaaGreat
open Go.RowKit
set_option maxRecDepth 100000 in
set_option maxHeartbeats 2000000 in
theorem rkey_no {A : List M.Tm} {h k : Int} {m : M.Val} {I J : Int} (hh : ¬ (M.myV h k I J = true ∧ M.opn A m = true)) (i0 : 0 ≤ I) (i1 : I ≤ 18446744073709551615) (j0 : 0 ≤ J) (j1 : J ≤ 18446744073709551615) {vl : Value} (w : World) (u : Ts w vl A) :
    Calls Tryz.prog 22 #[vl, .int .i64 h, .int .i64 k, (.agg #[.bool m.1, .bool m.2.1, .int .u64 (M.nu m.2.2.1.1), .int .u64 (M.nu m.2.2.1.2), .int .u64 (M.nu m.2.2.2.1.1.1), .int .u64 (M.nu m.2.2.2.1.1.2), .int .u64 (M.nu m.2.2.2.1.2.1), .int .u64 (M.nu m.2.2.2.1.2.2), .int .i64 m.2.2.2.2]), .agg #[.int .u64 I, .int .u64 J]] w fun e w' => ∃ v', e = .returned (.tuple #[(.agg #[.bool M.zV.1, .bool M.zV.2.1, .int .u64 (M.nu M.zV.2.2.1.1), .int .u64 (M.nu M.zV.2.2.1.2), .int .u64 (M.nu M.zV.2.2.2.1.1.1), .int .u64 (M.nu M.zV.2.2.2.1.1.2), .int .u64 (M.nu M.zV.2.2.2.1.2.1), .int .u64 (M.nu M.zV.2.2.2.1.2.2), .int .i64 M.zV.2.2.2.2]), v', .int .i64 1]) ∧ w'.ownsRow w.heap.size 39 3 v' 0 (elTm.cells []) ∧ Below w.heap.size w w' := by
  rw [zV_eq]
  have Xm0 := hidq (((Bx9.new w m).alloc (.cells #[.int .u64 I, .int .u64 J] 46)).alloc (.cells #[.bool false, .bool false, .int .u64 0, .int .u64 0, .int .u64 0, .int .u64 0, .int .u64 0, .int .u64 0, .int .i64 0] 29))
  have Xs0 := hidq ((Bi.new1 w (.cells #[.bool m.1, .bool m.2.1, .int .u64 (M.nu m.2.2.1.1), .int .u64 (M.nu m.2.2.1.2), .int .u64 (M.nu m.2.2.2.1.1.1), .int .u64 (M.nu m.2.2.2.1.1.2), .int .u64 (M.nu m.2.2.2.1.2.1), .int .u64 (M.nu m.2.2.2.1.2.2), .int .i64 m.2.2.2.2] 29) 46 I J).alloc (.cells #[.bool false, .bool false, .int .u64 0, .int .u64 0, .int .u64 0, .int .u64 0, .int .u64 0, .int .u64 0, .int .i64 0] 29))
  have Xz0 := hidq (zbox ((w.alloc (.cells #[.bool m.1, .bool m.2.1, .int .u64 (M.nu m.2.2.1.1), .int .u64 (M.nu m.2.2.1.2), .int .u64 (M.nu m.2.2.2.1.1.1), .int .u64 (M.nu m.2.2.2.1.1.2), .int .u64 (M.nu m.2.2.2.1.2.1), .int .u64 (M.nu m.2.2.2.1.2.2), .int .i64 m.2.2.2.2] 29)).alloc (.cells #[.int .u64 I, .int .u64 J] 46)))
  rw [World.size_alloc, World.size_alloc] at Xz0
  have UA0 := hidq (((u.alloc (.cells #[.bool m.1, .bool m.2.1, .int .u64 (M.nu m.2.2.1.1), .int .u64 (M.nu m.2.2.1.2), .int .u64 (M.nu m.2.2.2.1.1.1), .int .u64 (M.nu m.2.2.2.1.1.2), .int .u64 (M.nu m.2.2.2.1.2.1), .int .u64 (M.nu m.2.2.2.1.2.2), .int .i64 m.2.2.2.2] 29)).alloc (.cells #[.int .u64 I, .int .u64 J] 46)).alloc (.cells #[.bool false, .bool false, .int .u64 0, .int .u64 0, .int .u64 0, .int .u64 0, .int .u64 0, .int .u64 0, .int .i64 0] 29))
  have B0 := hidq (show Below w.heap.size w (((w.alloc (.cells #[.bool m.1, .bool m.2.1, .int .u64 (M.nu m.2.2.1.1), .int .u64 (M.nu m.2.2.1.2), .int .u64 (M.nu m.2.2.2.1.1.1), .int .u64 (M.nu m.2.2.2.1.1.2), .int .u64 (M.nu m.2.2.2.1.2.1), .int .u64 (M.nu m.2.2.2.1.2.2), .int .i64 m.2.2.2.2] 29)).alloc (.cells #[.int .u64 I, .int .u64 J] 46)).alloc (.cells #[.bool false, .bool false, .int .u64 0, .int .u64 0, .int .u64 0, .int .u64 0, .int .u64 0, .int .u64 0, .int .i64 0] 29)) from below_one (below_one (below_one (Below.refl _ _))))
  have cm0 := Xm0.out.cells
  have cs0 := Xs0.out.facts
  clear u
  cases hy : M.myV h k I J with
  | false =>
    have HM1 := hidq hy
    obtain ⟨q, hq⟩ : ∃ q, M.myE h k I J = q := ⟨_, rfl⟩
    have HM2 := hidq hq
    clear hh hy hq
    by_cases h0 : q = 0
    · subst h0
      go_enter Tryz.func22, Tryz.ntmps22
      go_wp2_with (first | (go_at_call 42; refine (rlmay_any h k I J _ i0 i1 j0 j1).mono ?_; rw [HM1.out, HM2.out]; rintro e w1 ⟨rfl, hb1⟩; have Ym1 := Xm0.out.below hb1; have cm1 := Ym1.cells; have lm1 := Ym1.lt; have Xm1 := hidq (Ym1); have Ys1 := Xs0.out.below hb1; have cs1 := Ys1.facts; have ls1 := Ys1.lt; have Xs1 := hidq (Ys1); have Yz1 := Xz0.out.below hb1; have cz1 := Yz1.cells; have fz1 := Yz1.frozen; have lz1 := Yz1.lt; have Xz1 := hidq (Yz1); have UA1 := hidq (UA0.out.below hb1); have B1 := hidq (below_trans B0.out hb1); clear hb1 Ym1 Ys1 Yz1))
      refine bodyPost_ret (v := .tuple #[.agg #[.bool _, .bool _, .int .u64 _, .int .u64 _, .int .u64 _, .int .u64 _, .int .u64 _, .int .u64 _, .int .i64 _], _, .int .i64 _]) (by simp [results, go_sem, cz1, Tryz.results22]) rfl ⟨_, rfl, World.ownsRow_nil _ _ _ _, below_set9 B1.out (by omega) _ _ _ _ _ _ _ _ _⟩
    · have hnb : (q == 0) = false := beq_eq_false_iff_ne.2 h0
      have hnc : (q != 0) = true := by simpa using h0
      go_enter Tryz.func22, Tryz.ntmps22
      go_wp2_with (first | (go_at_call 42; refine (rlmay_any h k I J _ i0 i1 j0 j1).mono ?_; rw [HM1.out, HM2.out]; rintro e w1 ⟨rfl, hb1⟩; have Ym1 := Xm0.out.below hb1; have cm1 := Ym1.cells; have lm1 := Ym1.lt; have Xm1 := hidq (Ym1); have Ys1 := Xs0.out.below hb1; have cs1 := Ys1.facts; have ls1 := Ys1.lt; have Xs1 := hidq (Ys1); have Yz1 := Xz0.out.below hb1; have cz1 := Yz1.cells; have fz1 := Yz1.frozen; have lz1 := Yz1.lt; have Xz1 := hidq (Yz1); have UA1 := hidq (UA0.out.below hb1); have B1 := hidq (below_trans B0.out hb1); clear hb1 Ym1 Ys1 Yz1))
      refine bodyPost_ret (v := .tuple #[.agg #[.bool _, .bool _, .int .u64 _, .int .u64 _, .int .u64 _, .int .u64 _, .int .u64 _, .int .u64 _, .int .i64 _], _, .int .i64 _]) (by simp [results, go_sem, cz1, Tryz.results22]) rfl ⟨_, rfl, World.ownsRow_nil _ _ _ _, below_set9 B1.out (by omega) _ _ _ _ _ _ _ _ _⟩
  | true =>
    have HM1 := hidq hy
    have HM2 := hidq (M.my_parts hy).2.2
    cases ho : M.opn A m with
    | true => exact absurd ⟨hy, ho⟩ hh
    | false =>
      have HO := hidq (fun W (u : Ts W vl A) => ropn_eq ho W u)
      clear hh hy ho
      go_enter Tryz.func22, Tryz.ntmps22
      go_wp2_with (first | (go_at_call 42; refine (rlmay_any h k I J _ i0 i1 j0 j1).mono ?_; rw [HM1.out, HM2.out]; rintro e w1 ⟨rfl, hb1⟩; have Ym1 := Xm0.out.below hb1; have cm1 := Ym1.cells; have lm1 := Ym1.lt; have Xm1 := hidq (Ym1); have Ys1 := Xs0.out.below hb1; have cs1 := Ys1.facts; have ls1 := Ys1.lt; have Xs1 := hidq (Ys1); have Yz1 := Xz0.out.below hb1; have cz1 := Yz1.cells; have fz1 := Yz1.frozen; have lz1 := Yz1.lt; have Xz1 := hidq (Yz1); have UA1 := hidq (UA0.out.below hb1); have B1 := hidq (below_trans B0.out hb1); clear hb1 Ym1 Ys1 Yz1) | (go_at_call 20; refine (HO.out _ UA1.out).mono ?_; rintro e w2 ⟨rfl, hb2⟩; have Ym2 := Xm1.out.below hb2; have cm2 := Ym2.cells; have lm2 := Ym2.lt; have Xm2 := hidq (Ym2); have Ys2 := Xs1.out.below hb2; have cs2 := Ys2.facts; have ls2 := Ys2.lt; have Xs2 := hidq (Ys2); have Yz2 := Xz1.out.below hb2; have cz2 := Yz2.cells; have fz2 := Yz2.frozen; have lz2 := Yz2.lt; have Xz2 := hidq (Yz2); have UA2 := hidq (UA1.out.below hb2); have B2 := hidq (below_trans B1.out hb2); clear cm1 lm1 cs1 ls1 cz1 lz1 fz1; clear hb2 Ym2 Ys2 Yz2))
      refine bodyPost_ret (v := .tuple #[.agg #[.bool _, .bool _, .int .u64 _, .int .u64 _, .int .u64 _, .int .u64 _, .int .u64 _, .int .u64 _, .int .i64 _], _, .int .i64 _]) (by simp [results, go_sem, cz2, Tryz.results22]) rfl ⟨_, rfl, World.ownsRow_nil _ _ _ _, below_set9 B2.out (by omega) _ _ _ _ _ _ _ _ _⟩
set_option maxRecDepth 100000 in
set_option maxHeartbeats 2000000 in
theorem rkey_1 {A : List M.Tm} {h k : Int} {m : M.Val} {I J : Int} (hy : M.myV h k I J = true) (ho : M.opn A m = true) {x1 : M.Val} {L : List M.Tm} {n1 : Int} (hL : M.labA A h m I J = (x1, L, n1)) (hn : ¬ n1 = 0 ∨ k = 1) (i0 : 0 ≤ I) (i1 : I ≤ 18446744073709551615) (j0 : 0 ≤ J) (j1 : J ≤ 18446744073709551615) {vl : Value} (w : World) (u : Ts w vl A) :
    Calls Tryz.prog 22 #[vl, .int .i64 h, .int .i64 k, (.agg #[.bool m.1, .bool m.2.1, .int .u64 (M.nu m.2.2.1.1), .int .u64 (M.nu m.2.2.1.2), .int .u64 (M.nu m.2.2.2.1.1.1), .int .u64 (M.nu m.2.2.2.1.1.2), .int .u64 (M.nu m.2.2.2.1.2.1), .int .u64 (M.nu m.2.2.2.1.2.2), .int .i64 m.2.2.2.2]), .agg #[.int .u64 I, .int .u64 J]] w fun e w' => ∃ v', e = .returned (.tuple #[(.agg #[.bool x1.1, .bool x1.2.1, .int .u64 (M.nu x1.2.2.1.1), .int .u64 (M.nu x1.2.2.1.2), .int .u64 (M.nu x1.2.2.2.1.1.1), .int .u64 (M.nu x1.2.2.2.1.1.2), .int .u64 (M.nu x1.2.2.2.1.2.1), .int .u64 (M.nu x1.2.2.2.1.2.2), .int .i64 x1.2.2.2.2]), v', .int .i64 n1]) ∧ w'.ownsRow w.heap.size 39 3 v' L.length (elTm.cells L) ∧ Below w.heap.size w w' := by
  have Xm0 := hidq (((Bx9.new w m).alloc (.cells #[.int .u64 I, .int .u64 J] 46)).alloc (.cells #[.bool false, .bool false, .int .u64 0, .int .u64 0, .int .u64 0, .int .u64 0, .int .u64 0, .int .u64 0, .int .i64 0] 29))
  have Xs0 := hidq ((Bi.new1 w (.cells #[.bool m.1, .bool m.2.1, .int .u64 (M.nu m.2.2.1.1), .int .u64 (M.nu m.2.2.1.2), .int .u64 (M.nu m.2.2.2.1.1.1), .int .u64 (M.nu m.2.2.2.1.1.2), .int .u64 (M.nu m.2.2.2.1.2.1), .int .u64 (M.nu m.2.2.2.1.2.2), .int .i64 m.2.2.2.2] 29) 46 I J).alloc (.cells #[.bool false, .bool false, .int .u64 0, .int .u64 0, .int .u64 0, .int .u64 0, .int .u64 0, .int .u64 0, .int .i64 0] 29))
  have Xz0 := hidq (zbox ((w.alloc (.cells #[.bool m.1, .bool m.2.1, .int .u64 (M.nu m.2.2.1.1), .int .u64 (M.nu m.2.2.1.2), .int .u64 (M.nu m.2.2.2.1.1.1), .int .u64 (M.nu m.2.2.2.1.1.2), .int .u64 (M.nu m.2.2.2.1.2.1), .int .u64 (M.nu m.2.2.2.1.2.2), .int .i64 m.2.2.2.2] 29)).alloc (.cells #[.int .u64 I, .int .u64 J] 46)))
  rw [World.size_alloc, World.size_alloc] at Xz0
  have UA0 := hidq (((u.alloc (.cells #[.bool m.1, .bool m.2.1, .int .u64 (M.nu m.2.2.1.1), .int .u64 (M.nu m.2.2.1.2), .int .u64 (M.nu m.2.2.2.1.1.1), .int .u64 (M.nu m.2.2.2.1.1.2), .int .u64 (M.nu m.2.2.2.1.2.1), .int .u64 (M.nu m.2.2.2.1.2.2), .int .i64 m.2.2.2.2] 29)).alloc (.cells #[.int .u64 I, .int .u64 J] 46)).alloc (.cells #[.bool false, .bool false, .int .u64 0, .int .u64 0, .int .u64 0, .int .u64 0, .int .u64 0, .int .u64 0, .int .i64 0] 29))
  have B0 := hidq (show Below w.heap.size w (((w.alloc (.cells #[.bool m.1, .bool m.2.1, .int .u64 (M.nu m.2.2.1.1), .int .u64 (M.nu m.2.2.1.2), .int .u64 (M.nu m.2.2.2.1.1.1), .int .u64 (M.nu m.2.2.2.1.1.2), .int .u64 (M.nu m.2.2.2.1.2.1), .int .u64 (M.nu m.2.2.2.1.2.2), .int .i64 m.2.2.2.2] 29)).alloc (.cells #[.int .u64 I, .int .u64 J] 46)).alloc (.cells #[.bool false, .bool false, .int .u64 0, .int .u64 0, .int .u64 0, .int .u64 0, .int .u64 0, .int .u64 0, .int .i64 0] 29)) from below_one (below_one (below_one (Below.refl _ _))))
  have cm0 := Xm0.out.cells
  have cs0 := Xs0.out.facts
  clear u
  have HM1 := hidq hy
  have HM2 := hidq (M.my_parts hy).2.2
  have HO := hidq (fun W (u : Ts W vl A) => ropn_eq ho W u)
  have HL := hidq hL
  by_cases h0 : n1 = 0
  · obtain rfl : k = 1 := by rcases hn with h | h; exact absurd h0 h; exact h
    subst h0
    clear hy ho hL hn
    go_enter Tryz.func22, Tryz.ntmps22
    go_wp2_with (first | (go_at_call 42; refine (rlmay_any h _ I J _ i0 i1 j0 j1).mono ?_; rw [HM1.out, HM2.out]; rintro e w1 ⟨rfl, hb1⟩; have Ym1 := Xm0.out.below hb1; have cm1 := Ym1.cells; have lm1 := Ym1.lt; have Xm1 := hidq (Ym1); have Ys1 := Xs0.out.below hb1; have cs1 := Ys1.facts; have ls1 := Ys1.lt; have Xs1 := hidq (Ys1); have Yz1 := Xz0.out.below hb1; have cz1 := Yz1.cells; have fz1 := Yz1.frozen; have lz1 := Yz1.lt; have Xz1 := hidq (Yz1); have UA1 := hidq (UA0.out.below hb1); have B1 := hidq (below_trans B0.out hb1); clear hb1 Ym1 Ys1 Yz1) | (go_at_call 20; refine (HO.out _ UA1.out).mono ?_; rintro e w2 ⟨rfl, hb2⟩; have Ym2 := Xm1.out.below hb2; have cm2 := Ym2.cells; have lm2 := Ym2.lt; have Xm2 := hidq (Ym2); have Ys2 := Xs1.out.below hb2; have cs2 := Ys2.facts; have ls2 := Ys2.lt; have Xs2 := hidq (Ys2); have Yz2 := Xz1.out.below hb2; have cz2 := Yz2.cells; have fz2 := Yz2.frozen; have lz2 := Yz2.lt; have Xz2 := hidq (Yz2); have UA2 := hidq (UA1.out.below hb2); have B2 := hidq (below_trans B1.out hb2); clear cm1 lm1 cs1 ls1 cz1 lz1 fz1; clear hb2 Ym2 Ys2 Yz2) | (go_at_call 21; refine (rlab_eq HL.out i0 i1 j0 j1 _ UA2.out).mono ?_; rintro e w3 ⟨v3, rfl, ho3, hb3⟩; have Ym3 := Xm2.out.below hb3; have cm3 := Ym3.cells; have lm3 := Ym3.lt; have Xm3 := hidq ((Ym3).alloc (.cells #[.bool x1.1, .bool x1.2.1, .int .u64 (M.nu x1.2.2.1.1), .int .u64 (M.nu x1.2.2.1.2), .int .u64 (M.nu x1.2.2.2.1.1.1), .int .u64 (M.nu x1.2.2.2.1.1.2), .int .u64 (M.nu x1.2.2.2.1.2.1), .int .u64 (M.nu x1.2.2.2.1.2.2), .int .i64 x1.2.2.2.2] 29)); have Ys3 := Xs2.out.below hb3; have cs3 := Ys3.facts; have ls3 := Ys3.lt; have Xs3 := hidq ((Ys3).alloc (.cells #[.bool x1.1, .bool x1.2.1, .int .u64 (M.nu x1.2.2.1.1), .int .u64 (M.nu x1.2.2.1.2), .int .u64 (M.nu x1.2.2.2.1.1.1), .int .u64 (M.nu x1.2.2.2.1.1.2), .int .u64 (M.nu x1.2.2.2.1.2.1), .int .u64 (M.nu x1.2.2.2.1.2.2), .int .i64 x1.2.2.2.2] 29)); have Yz3 := Xz2.out.below hb3; have cz3 := Yz3.cells; have fz3 := Yz3.frozen; have lz3 := Yz3.lt; have Xz3 := hidq ((Yz3).alloc (.cells #[.bool x1.1, .bool x1.2.1, .int .u64 (M.nu x1.2.2.1.1), .int .u64 (M.nu x1.2.2.1.2), .int .u64 (M.nu x1.2.2.2.1.1.1), .int .u64 (M.nu x1.2.2.2.1.1.2), .int .u64 (M.nu x1.2.2.2.1.2.1), .int .u64 (M.nu x1.2.2.2.1.2.2), .int .i64 x1.2.2.2.2] 29)); have UA3 := hidq ((UA2.out.below hb3).alloc (.cells #[.bool x1.1, .bool x1.2.1, .int .u64 (M.nu x1.2.2.1.1), .int .u64 (M.nu x1.2.2.1.2), .int .u64 (M.nu x1.2.2.2.1.1.1), .int .u64 (M.nu x1.2.2.2.1.1.2), .int .u64 (M.nu x1.2.2.2.1.2.1), .int .u64 (M.nu x1.2.2.2.1.2.2), .int .i64 x1.2.2.2.2] 29)); have Xa3 := hidq (Bx9.new w3 x1); have B3 := hidq (below_one (o := (.cells #[.bool x1.1, .bool x1.2.1, .int .u64 (M.nu x1.2.2.1.1), .int .u64 (M.nu x1.2.2.1.2), .int .u64 (M.nu x1.2.2.2.1.1.1), .int .u64 (M.nu x1.2.2.2.1.1.2), .int .u64 (M.nu x1.2.2.2.1.2.1), .int .u64 (M.nu x1.2.2.2.1.2.2), .int .i64 x1.2.2.2.2] 29)) (below_trans B2.out hb3)); have LZ3 := hidq (Xz2.out.lt); have ON3 := hidq ho3; have BN3 := hidq (below_trans B2.out hb3); clear ho3; clear cm2 lm2 cs2 ls2 cz2 lz2 fz2; clear hb3 Ym3 Ys3 Yz3))
    refine bodyPost_ret (v := .tuple #[.agg #[.bool _, .bool _, .int .u64 _, .int .u64 _, .int .u64 _, .int .u64 _, .int .u64 _, .int .u64 _, .int .i64 _], _, .int .i64 _]) (by simp [results, go_sem, cz3, lz3, Tryz.results22]) rfl ⟨_, rfl, own_lowerq (own_keptq (own_set9 ON3.out LZ3.out _ _ _ _ _ _ _ _ _) (below_one (Below.refl _ _))) (by have := LZ3.out; omega), below_one (below_set9 BN3.out (by omega) _ _ _ _ _ _ _ _ _)⟩
  · have hnb : (n1 == 0) = false := beq_eq_false_iff_ne.2 h0
    have hnc : (n1 != 0) = true := by simpa using h0
    clear hy ho hL hn
    go_enter Tryz.func22, Tryz.ntmps22
    go_wp2_with (first | (go_at_call 42; refine (rlmay_any h k I J _ i0 i1 j0 j1).mono ?_; rw [HM1.out, HM2.out]; rintro e w1 ⟨rfl, hb1⟩; have Ym1 := Xm0.out.below hb1; have cm1 := Ym1.cells; have lm1 := Ym1.lt; have Xm1 := hidq (Ym1); have Ys1 := Xs0.out.below hb1; have cs1 := Ys1.facts; have ls1 := Ys1.lt; have Xs1 := hidq (Ys1); have Yz1 := Xz0.out.below hb1; have cz1 := Yz1.cells; have fz1 := Yz1.frozen; have lz1 := Yz1.lt; have Xz1 := hidq (Yz1); have UA1 := hidq (UA0.out.below hb1); have B1 := hidq (below_trans B0.out hb1); clear hb1 Ym1 Ys1 Yz1) | (go_at_call 20; refine (HO.out _ UA1.out).mono ?_; rintro e w2 ⟨rfl, hb2⟩; have Ym2 := Xm1.out.below hb2; have cm2 := Ym2.cells; have lm2 := Ym2.lt; have Xm2 := hidq (Ym2); have Ys2 := Xs1.out.below hb2; have cs2 := Ys2.facts; have ls2 := Ys2.lt; have Xs2 := hidq (Ys2); have Yz2 := Xz1.out.below hb2; have cz2 := Yz2.cells; have fz2 := Yz2.frozen; have lz2 := Yz2.lt; have Xz2 := hidq (Yz2); have UA2 := hidq (UA1.out.below hb2); have B2 := hidq (below_trans B1.out hb2); clear cm1 lm1 cs1 ls1 cz1 lz1 fz1; clear hb2 Ym2 Ys2 Yz2) | (go_at_call 21; refine (rlab_eq HL.out i0 i1 j0 j1 _ UA2.out).mono ?_; rintro e w3 ⟨v3, rfl, ho3, hb3⟩; have Ym3 := Xm2.out.below hb3; have cm3 := Ym3.cells; have lm3 := Ym3.lt; have Xm3 := hidq ((Ym3).alloc (.cells #[.bool x1.1, .bool x1.2.1, .int .u64 (M.nu x1.2.2.1.1), .int .u64 (M.nu x1.2.2.1.2), .int .u64 (M.nu x1.2.2.2.1.1.1), .int .u64 (M.nu x1.2.2.2.1.1.2), .int .u64 (M.nu x1.2.2.2.1.2.1), .int .u64 (M.nu x1.2.2.2.1.2.2), .int .i64 x1.2.2.2.2] 29)); have Ys3 := Xs2.out.below hb3; have cs3 := Ys3.facts; have ls3 := Ys3.lt; have Xs3 := hidq ((Ys3).alloc (.cells #[.bool x1.1, .bool x1.2.1, .int .u64 (M.nu x1.2.2.1.1), .int .u64 (M.nu x1.2.2.1.2), .int .u64 (M.nu x1.2.2.2.1.1.1), .int .u64 (M.nu x1.2.2.2.1.1.2), .int .u64 (M.nu x1.2.2.2.1.2.1), .int .u64 (M.nu x1.2.2.2.1.2.2), .int .i64 x1.2.2.2.2] 29)); have Yz3 := Xz2.out.below hb3; have cz3 := Yz3.cells; have fz3 := Yz3.frozen; have lz3 := Yz3.lt; have Xz3 := hidq ((Yz3).alloc (.cells #[.bool x1.1, .bool x1.2.1, .int .u64 (M.nu x1.2.2.1.1), .int .u64 (M.nu x1.2.2.1.2), .int .u64 (M.nu x1.2.2.2.1.1.1), .int .u64 (M.nu x1.2.2.2.1.1.2), .int .u64 (M.nu x1.2.2.2.1.2.1), .int .u64 (M.nu x1.2.2.2.1.2.2), .int .i64 x1.2.2.2.2] 29)); have UA3 := hidq ((UA2.out.below hb3).alloc (.cells #[.bool x1.1, .bool x1.2.1, .int .u64 (M.nu x1.2.2.1.1), .int .u64 (M.nu x1.2.2.1.2), .int .u64 (M.nu x1.2.2.2.1.1.1), .int .u64 (M.nu x1.2.2.2.1.1.2), .int .u64 (M.nu x1.2.2.2.1.2.1), .int .u64 (M.nu x1.2.2.2.1.2.2), .int .i64 x1.2.2.2.2] 29)); have Xa3 := hidq (Bx9.new w3 x1); have B3 := hidq (below_one (o := (.cells #[.bool x1.1, .bool x1.2.1, .int .u64 (M.nu x1.2.2.1.1), .int .u64 (M.nu x1.2.2.1.2), .int .u64 (M.nu x1.2.2.2.1.1.1), .int .u64 (M.nu x1.2.2.2.1.1.2), .int .u64 (M.nu x1.2.2.2.1.2.1), .int .u64 (M.nu x1.2.2.2.1.2.2), .int .i64 x1.2.2.2.2] 29)) (below_trans B2.out hb3)); have LZ3 := hidq (Xz2.out.lt); have ON3 := hidq ho3; have BN3 := hidq (below_trans B2.out hb3); clear ho3; clear cm2 lm2 cs2 ls2 cz2 lz2 fz2; clear hb3 Ym3 Ys3 Yz3))
    refine bodyPost_ret (v := .tuple #[.agg #[.bool _, .bool _, .int .u64 _, .int .u64 _, .int .u64 _, .int .u64 _, .int .u64 _, .int .u64 _, .int .i64 _], _, .int .i64 _]) (by simp [results, go_sem, cz3, lz3, Tryz.results22]) rfl ⟨_, rfl, own_lowerq (own_keptq (own_set9 ON3.out LZ3.out _ _ _ _ _ _ _ _ _) (below_one (Below.refl _ _))) (by have := LZ3.out; omega), below_one (below_set9 BN3.out (by omega) _ _ _ _ _ _ _ _ _)⟩
set_option maxRecDepth 100000 in
set_option maxHeartbeats 2000000 in
theorem rkey_2 {A : List M.Tm} {h k : Int} {m : M.Val} {I J : Int} (hy : M.myV h k I J = true) (ho : M.opn A m = true) {x1 x : M.Val} {L1 L : List M.Tm} {n : Int} (hL : M.labA A h m I J = (x1, L1, 0)) (o1 : M.opn L1 x1 = true) (hk : ¬ k = 1) (hP : M.partA L1 x1 2 = (x, L, n)) (i0 : 0 ≤ I) (i1 : I ≤ 18446744073709551615) (j0 : 0 ≤ J) (j1 : J ≤ 18446744073709551615) {vl : Value} (w : World) (u : Ts w vl A) :
    Calls Tryz.prog 22 #[vl, .int .i64 h, .int .i64 k, (.agg #[.bool m.1, .bool m.2.1, .int .u64 (M.nu m.2.2.1.1), .int .u64 (M.nu m.2.2.1.2), .int .u64 (M.nu m.2.2.2.1.1.1), .int .u64 (M.nu m.2.2.2.1.1.2), .int .u64 (M.nu m.2.2.2.1.2.1), .int .u64 (M.nu m.2.2.2.1.2.2), .int .i64 m.2.2.2.2]), .agg #[.int .u64 I, .int .u64 J]] w fun e w' => ∃ v', e = .returned (.tuple #[(.agg #[.bool x.1, .bool x.2.1, .int .u64 (M.nu x.2.2.1.1), .int .u64 (M.nu x.2.2.1.2), .int .u64 (M.nu x.2.2.2.1.1.1), .int .u64 (M.nu x.2.2.2.1.1.2), .int .u64 (M.nu x.2.2.2.1.2.1), .int .u64 (M.nu x.2.2.2.1.2.2), .int .i64 x.2.2.2.2]), v', .int .i64 n]) ∧ w'.ownsRow w.heap.size 39 3 v' L.length (elTm.cells L) ∧ Below w.heap.size w w' := by
  have Xm0 := hidq (((Bx9.new w m).alloc (.cells #[.int .u64 I, .int .u64 J] 46)).alloc (.cells #[.bool false, .bool false, .int .u64 0, .int .u64 0, .int .u64 0, .int .u64 0, .int .u64 0, .int .u64 0, .int .i64 0] 29))
  have Xs0 := hidq ((Bi.new1 w (.cells #[.bool m.1, .bool m.2.1, .int .u64 (M.nu m.2.2.1.1), .int .u64 (M.nu m.2.2.1.2), .int .u64 (M.nu m.2.2.2.1.1.1), .int .u64 (M.nu m.2.2.2.1.1.2), .int .u64 (M.nu m.2.2.2.1.2.1), .int .u64 (M.nu m.2.2.2.1.2.2), .int .i64 m.2.2.2.2] 29) 46 I J).alloc (.cells #[.bool false, .bool false, .int .u64 0, .int .u64 0, .int .u64 0, .int .u64 0, .int .u64 0, .int .u64 0, .int .i64 0] 29))
  have Xz0 := hidq (zbox ((w.alloc (.cells #[.bool m.1, .bool m.2.1, .int .u64 (M.nu m.2.2.1.1), .int .u64 (M.nu m.2.2.1.2), .int .u64 (M.nu m.2.2.2.1.1.1), .int .u64 (M.nu m.2.2.2.1.1.2), .int .u64 (M.nu m.2.2.2.1.2.1), .int .u64 (M.nu m.2.2.2.1.2.2), .int .i64 m.2.2.2.2] 29)).alloc (.cells #[.int .u64 I, .int .u64 J] 46)))
  rw [World.size_alloc, World.size_alloc] at Xz0
  have UA0 := hidq (((u.alloc (.cells #[.bool m.1, .bool m.2.1, .int .u64 (M.nu m.2.2.1.1), .int .u64 (M.nu m.2.2.1.2), .int .u64 (M.nu m.2.2.2.1.1.1), .int .u64 (M.nu m.2.2.2.1.1.2), .int .u64 (M.nu m.2.2.2.1.2.1), .int .u64 (M.nu m.2.2.2.1.2.2), .int .i64 m.2.2.2.2] 29)).alloc (.cells #[.int .u64 I, .int .u64 J] 46)).alloc (.cells #[.bool false, .bool false, .int .u64 0, .int .u64 0, .int .u64 0, .int .u64 0, .int .u64 0, .int .u64 0, .int .i64 0] 29))
  have B0 := hidq (show Below w.heap.size w (((w.alloc (.cells #[.bool m.1, .bool m.2.1, .int .u64 (M.nu m.2.2.1.1), .int .u64 (M.nu m.2.2.1.2), .int .u64 (M.nu m.2.2.2.1.1.1), .int .u64 (M.nu m.2.2.2.1.1.2), .int .u64 (M.nu m.2.2.2.1.2.1), .int .u64 (M.nu m.2.2.2.1.2.2), .int .i64 m.2.2.2.2] 29)).alloc (.cells #[.int .u64 I, .int .u64 J] 46)).alloc (.cells #[.bool false, .bool false, .int .u64 0, .int .u64 0, .int .u64 0, .int .u64 0, .int .u64 0, .int .u64 0, .int .i64 0] 29)) from below_one (below_one (below_one (Below.refl _ _))))
  have cm0 := Xm0.out.cells
  have cs0 := Xs0.out.facts
  clear u
  have HM1 := hidq hy
  have HM2 := hidq (M.my_parts hy).2.2
  have HO := hidq (fun W (u : Ts W vl A) => ropn_eq ho W u)
  have HL := hidq hL
  have HP := hidq hP
  have FX := hidq (opn_fit o1)
  have K1 := hidq (M.opn_iff.1 o1).1
  have hkb : (k == 1) = false := beq_eq_false_iff_ne.2 hk
  clear hy ho hL o1 hP
  go_enter Tryz.func22, Tryz.ntmps22
  go_wp2_with (first | (go_at_call 42; refine (rlmay_any h k I J _ i0 i1 j0 j1).mono ?_; rw [HM1.out, HM2.out]; rintro e w1 ⟨rfl, hb1⟩; have Ym1 := Xm0.out.below hb1; have cm1 := Ym1.cells; have lm1 := Ym1.lt; have Xm1 := hidq (Ym1); have Ys1 := Xs0.out.below hb1; have cs1 := Ys1.facts; have ls1 := Ys1.lt; have Xs1 := hidq (Ys1); have Yz1 := Xz0.out.below hb1; have cz1 := Yz1.cells; have fz1 := Yz1.frozen; have lz1 := Yz1.lt; have Xz1 := hidq (Yz1); have UA1 := hidq (UA0.out.below hb1); have B1 := hidq (below_trans B0.out hb1); clear hb1 Ym1 Ys1 Yz1) | (go_at_call 20; refine (HO.out _ UA1.out).mono ?_; rintro e w2 ⟨rfl, hb2⟩; have Ym2 := Xm1.out.below hb2; have cm2 := Ym2.cells; have lm2 := Ym2.lt; have Xm2 := hidq (Ym2); have Ys2 := Xs1.out.below hb2; have cs2 := Ys2.facts; have ls2 := Ys2.lt; have Xs2 := hidq (Ys2); have Yz2 := Xz1.out.below hb2; have cz2 := Yz2.cells; have fz2 := Yz2.frozen; have lz2 := Yz2.lt; have Xz2 := hidq (Yz2); have UA2 := hidq (UA1.out.below hb2); have B2 := hidq (below_trans B1.out hb2); clear cm1 lm1 cs1 ls1 cz1 lz1 fz1; clear hb2 Ym2 Ys2 Yz2) | (go_at_call 21; refine (rlab_eq HL.out i0 i1 j0 j1 _ UA2.out).mono ?_; rintro e w3 ⟨v3, rfl, ho3, hb3⟩; have Ym3 := Xm2.out.below hb3; have cm3 := Ym3.cells; have lm3 := Ym3.lt; have Xm3 := hidq ((Ym3).alloc (.cells #[.bool x1.1, .bool x1.2.1, .int .u64 (M.nu x1.2.2.1.1), .int .u64 (M.nu x1.2.2.1.2), .int .u64 (M.nu x1.2.2.2.1.1.1), .int .u64 (M.nu x1.2.2.2.1.1.2), .int .u64 (M.nu x1.2.2.2.1.2.1), .int .u64 (M.nu x1.2.2.2.1.2.2), .int .i64 x1.2.2.2.2] 29)); have Ys3 := Xs2.out.below hb3; have cs3 := Ys3.facts; have ls3 := Ys3.lt; have Xs3 := hidq ((Ys3).alloc (.cells #[.bool x1.1, .bool x1.2.1, .int .u64 (M.nu x1.2.2.1.1), .int .u64 (M.nu x1.2.2.1.2), .int .u64 (M.nu x1.2.2.2.1.1.1), .int .u64 (M.nu x1.2.2.2.1.1.2), .int .u64 (M.nu x1.2.2.2.1.2.1), .int .u64 (M.nu x1.2.2.2.1.2.2), .int .i64 x1.2.2.2.2] 29)); have Yz3 := Xz2.out.below hb3; have cz3 := Yz3.cells; have fz3 := Yz3.frozen; have lz3 := Yz3.lt; have Xz3 := hidq ((Yz3).alloc (.cells #[.bool x1.1, .bool x1.2.1, .int .u64 (M.nu x1.2.2.1.1), .int .u64 (M.nu x1.2.2.1.2), .int .u64 (M.nu x1.2.2.2.1.1.1), .int .u64 (M.nu x1.2.2.2.1.1.2), .int .u64 (M.nu x1.2.2.2.1.2.1), .int .u64 (M.nu x1.2.2.2.1.2.2), .int .i64 x1.2.2.2.2] 29)); have UA3 := hidq ((UA2.out.below hb3).alloc (.cells #[.bool x1.1, .bool x1.2.1, .int .u64 (M.nu x1.2.2.1.1), .int .u64 (M.nu x1.2.2.1.2), .int .u64 (M.nu x1.2.2.2.1.1.1), .int .u64 (M.nu x1.2.2.2.1.1.2), .int .u64 (M.nu x1.2.2.2.1.2.1), .int .u64 (M.nu x1.2.2.2.1.2.2), .int .i64 x1.2.2.2.2] 29)); have U13 := hidq ((ts_ofown ho3 K1.out).alloc (.cells #[.bool x1.1, .bool x1.2.1, .int .u64 (M.nu x1.2.2.1.1), .int .u64 (M.nu x1.2.2.1.2), .int .u64 (M.nu x1.2.2.2.1.1.1), .int .u64 (M.nu x1.2.2.2.1.1.2), .int .u64 (M.nu x1.2.2.2.1.2.1), .int .u64 (M.nu x1.2.2.2.1.2.2), .int .i64 x1.2.2.2.2] 29)); have Xa3 := hidq (Bx9.new w3 x1); have B3 := hidq (below_one (o := (.cells #[.bool x1.1, .bool x1.2.1, .int .u64 (M.nu x1.2.2.1.1), .int .u64 (M.nu x1.2.2.1.2), .int .u64 (M.nu x1.2.2.2.1.1.1), .int .u64 (M.nu x1.2.2.2.1.1.2), .int .u64 (M.nu x1.2.2.2.1.2.1), .int .u64 (M.nu x1.2.2.2.1.2.2), .int .i64 x1.2.2.2.2] 29)) (below_trans B2.out hb3)); have LZ3 := hidq (Xz2.out.lt); have ON3 := hidq ho3; have BN3 := hidq (below_trans B2.out hb3); clear ho3; clear cm2 lm2 cs2 ls2 cz2 lz2 fz2; clear hb3 Ym3 Ys3 Yz3) | (go_at_call 39; refine (rvpart_eq FX.out HP.out _ U13.out).mono ?_; rintro e w4 ⟨v4, rfl, ho4, hb4⟩; have Ym4 := Xm3.out.below hb4; have cm4 := Ym4.cells; have lm4 := Ym4.lt; have Xm4 := hidq (Ym4); have Ys4 := Xs3.out.below hb4; have cs4 := Ys4.facts; have ls4 := Ys4.lt; have Xs4 := hidq (Ys4); have Yz4 := Xz3.out.below hb4; have cz4 := Yz4.cells; have fz4 := Yz4.frozen; have lz4 := Yz4.lt; have Xz4 := hidq (Yz4); have Ya4 := Xa3.out.below hb4; have ca4 := Ya4.cells; have la4 := Ya4.lt; have Xa4 := hidq (Ya4); have UA4 := hidq (UA3.out.below hb4); have U14 := hidq (U13.out.below hb4); have B4 := hidq (below_trans B3.out hb4); have LZ4 := hidq (Xz3.out.lt); have O4 := hidq ho4; clear ho4; clear cm3 lm3 cs3 ls3 cz3 lz3 fz3; clear hb4 Ym4 Ys4 Yz4 Ya4))
  refine bodyPost_ret (v := .tuple #[.agg #[.bool _, .bool _, .int .u64 _, .int .u64 _, .int .u64 _, .int .u64 _, .int .u64 _, .int .u64 _, .int .i64 _], _, .int .i64 _]) (by simp [results, go_sem, cz4, Tryz.results22]) rfl ⟨_, rfl, own_lowerq (own_set9 O4.out LZ4.out _ _ _ _ _ _ _ _ _) (by have := LZ4.out; omega), below_set9 B4.out (by omega) _ _ _ _ _ _ _ _ _⟩
set_option maxRecDepth 100000 in
theorem rkey_eq {A : List M.Tm} {h k : Int} {m : M.Val} {I J : Int} {x : M.Val} {L : List M.Tm} {n : Int} (hx : M.keyA A h k m I J = (x, L, n)) (i0 : 0 ≤ I) (i1 : I ≤ 18446744073709551615) (j0 : 0 ≤ J) (j1 : J ≤ 18446744073709551615) {vl : Value} (w : World) (u : Ts w vl A) :
    Calls Tryz.prog 22 #[vl, .int .i64 h, .int .i64 k, (.agg #[.bool m.1, .bool m.2.1, .int .u64 (M.nu m.2.2.1.1), .int .u64 (M.nu m.2.2.1.2), .int .u64 (M.nu m.2.2.2.1.1.1), .int .u64 (M.nu m.2.2.2.1.1.2), .int .u64 (M.nu m.2.2.2.1.2.1), .int .u64 (M.nu m.2.2.2.1.2.2), .int .i64 m.2.2.2.2]), .agg #[.int .u64 I, .int .u64 J]] w fun e w' => ∃ v', e = .returned (.tuple #[(.agg #[.bool x.1, .bool x.2.1, .int .u64 (M.nu x.2.2.1.1), .int .u64 (M.nu x.2.2.1.2), .int .u64 (M.nu x.2.2.2.1.1.1), .int .u64 (M.nu x.2.2.2.1.1.2), .int .u64 (M.nu x.2.2.2.1.2.1), .int .u64 (M.nu x.2.2.2.1.2.2), .int .i64 x.2.2.2.2]), v', .int .i64 n]) ∧ w'.ownsRow w.heap.size 39 3 v' L.length (elTm.cells L) ∧ Below w.heap.size w w' := by
  by_cases hh : M.myV h k I J = true ∧ M.opn A m = true
  · obtain ⟨hy, ho⟩ := hh
    rw [M.key_yes hy ho] at hx
    obtain ⟨⟨x1, L1, n1⟩, hL⟩ : ∃ q, M.labA A h m I J = q := ⟨_, rfl⟩
    rw [hL] at hx
    by_cases hk : k = 1
    · rw [if_pos hk] at hx
      simp only [Prod.mk.injEq] at hx
      obtain ⟨rfl, rfl, rfl⟩ := hx
      exact rkey_1 hy ho hL (.inr hk) i0 i1 j0 j1 w u
    · rw [if_neg hk] at hx
      have hW := hL
      rw [M.lab_walk (M.my_parts hy).2.1 ho] at hW
      by_cases h1 : n1 = 0
      · subst h1
        refine rkey_2 hy ho hL (M.wkR_facts _ ho M.opn3_lab hW).1 hk ?_ i0 i1 j0 j1 w u
        rw [← hx]
        unfold M.andP
        rw [if_pos rfl]
      · rw [show M.andP (x1, L1, n1) 2 = (M.zV, [], n1) by unfold M.andP; rw [if_neg h1]] at hx
        simp only [Prod.mk.injEq] at hx
        obtain ⟨rfl, rfl, rfl⟩ := hx
        have e := M.wkR_err (pathsIJ I J) (A := A) (v := m) (by rw [pathsIJ, hW]; exact h1)
        rw [pathsIJ, hW] at e
        simp only [Prod.mk.injEq] at e
        obtain ⟨rfl, rfl, -⟩ := e
        exact rkey_1 hy ho hL (.inl h1) i0 i1 j0 j1 w u
  · rw [M.key_no hh] at hx
    simp only [Prod.mk.injEq] at hx
    obtain ⟨rfl, rfl, rfl⟩ := hx
    exact rkey_no hh i0 i1 j0 j1 w u
end Go.Proofs.YthmiekinjfaflaaGreat
