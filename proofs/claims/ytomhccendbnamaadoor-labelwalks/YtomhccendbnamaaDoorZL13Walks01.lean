/-
  The law LabelWalks returns true at every input: one of its ways. Conditions: the slices hold terms, the numbers fit their kinds, the two tables read as their text lays them.
-/
import Derived.Test.YtomhccendbnamaaDoorZL13Walks0
import Derived.Test.YtomhccendbnamaaDoorZTR
import Derived.Deep.DeepCutAuto
namespace Go.Proofs.YtomhccendbnamaaDoor
open Go.RowKit
set_option maxRecDepth 100000 in
set_option maxHeartbeats 8000000 in
theorem labelWalks_01 {A : List M.Tm} {h : Int} {m : M.Val} {n : Int} {S T : List Int} {x y : M.Val} {L B : List M.Tm} {e : Int} {v : M.Val} {N : List M.Tm} {e' : Int} (hx : M.walkA A m (S ++ T) = (x, L, e)) (he : ¬ e = 0) (ha : M.walkA A m S = (y, B, e')) (hn : M.nodeA A h m n = (v, N, 0)) (oN : M.Ok N) (hl : A.length ≤ 60) (hS : S.length ≤ 30) (hT' : T.length ≤ 30) (n0 : 0 ≤ n) (n1 : n ≤ 18446744073709551615) {vl vs vt : Value} (w : World) (hT : Tab w) (u : Ts w vl A) (us : Is w vs S) (ut : Is w vt T) :
    Calls Tryd.prog 3 #[vl, .int .i64 h, (.agg #[.bool m.1, .bool m.2.1, .int .u64 (M.nu m.2.2.1.1), .int .u64 (M.nu m.2.2.1.2), .int .u64 (M.nu m.2.2.2.1.1.1), .int .u64 (M.nu m.2.2.2.1.1.2), .int .u64 (M.nu m.2.2.2.1.2.1), .int .u64 (M.nu m.2.2.2.1.2.2), .int .i64 m.2.2.2.2]), .int .u64 n, vs, vt] w fun e w' => e = .returned (.bool true) ∧ Below w.heap.size w w' := by
  have heq := eqVa
  obtain ⟨al, cl, rfl, -, -, -⟩ := u.form
  obtain ⟨as_, cs, rfl, -, -, -⟩ := us.form
  obtain ⟨at_, ct, rfl, -, -, -⟩ := ut.form
  have Xm0 := hidq (Bx9.new w m)
  have UA0 := hidq (u.alloc (.cells #[.bool m.1, .bool m.2.1, .int .u64 (M.nu m.2.2.1.1), .int .u64 (M.nu m.2.2.1.2), .int .u64 (M.nu m.2.2.2.1.1.1), .int .u64 (M.nu m.2.2.2.1.1.2), .int .u64 (M.nu m.2.2.2.1.2.1), .int .u64 (M.nu m.2.2.2.1.2.2), .int .i64 m.2.2.2.2] 29))
  have Is0 := hidq (us.alloc (.cells #[.bool m.1, .bool m.2.1, .int .u64 (M.nu m.2.2.1.1), .int .u64 (M.nu m.2.2.1.2), .int .u64 (M.nu m.2.2.2.1.1.1), .int .u64 (M.nu m.2.2.2.1.1.2), .int .u64 (M.nu m.2.2.2.1.2.1), .int .u64 (M.nu m.2.2.2.1.2.2), .int .i64 m.2.2.2.2] 29))
  have It0 := hidq (ut.alloc (.cells #[.bool m.1, .bool m.2.1, .int .u64 (M.nu m.2.2.1.1), .int .u64 (M.nu m.2.2.1.2), .int .u64 (M.nu m.2.2.2.1.1.1), .int .u64 (M.nu m.2.2.2.1.1.2), .int .u64 (M.nu m.2.2.2.1.2.1), .int .u64 (M.nu m.2.2.2.1.2.2), .int .i64 m.2.2.2.2] 29))
  have B0 := hidq (show Below w.heap.size w (w.alloc (.cells #[.bool m.1, .bool m.2.1, .int .u64 (M.nu m.2.2.1.1), .int .u64 (M.nu m.2.2.1.2), .int .u64 (M.nu m.2.2.2.1.1.1), .int .u64 (M.nu m.2.2.2.1.1.2), .int .u64 (M.nu m.2.2.2.1.2.1), .int .u64 (M.nu m.2.2.2.1.2.2), .int .i64 m.2.2.2.2] 29)) from below_one (Below.refl _ _))
  have cm0 := Xm0.out.cells
  have HT := hidq (hT.below B0.out)
  have FS := hidq (show ∀ x ∈ S ++ T, M.fitI x from fun x hx => by rcases List.mem_append.1 hx with h | h; exact us.oks x h; exact ut.oks x h)
  clear hT
  have HALL := hidq (fun W vl vs (u : Ts W vl A) (us : Is W vs (S ++ T)) => lwalk_eq hx (vl := vl) (vs := vs) W u us)
  have HA := hidq (fun W vl vs (u : Ts W vl A) (us : Is W vs S) => lwalk_eq ha (vl := vl) (vs := vs) W u us)
  have heb : (e == 0) = false := beq_eq_false_iff_ne.2 he
  have hec : (e != 0) = true := by simpa using he
  have HN := hidq (fun W vl (u : Ts W vl A) => lnode_eq hn n0 n1 (vl := vl) W u)
  have KN := hidq oN
  have HC := hidq (fun s hc => M.node_child (s := s) hn hl hc)
  have hl1 : ¬ (60 : Int) < A.length := by omega
  have hl2 : ¬ (30 : Int) < S.length := by omega
  have hl3 : ¬ (30 : Int) < T.length := by omega
  have T11 := hidq trivial
  clear u us ut hx ha hn oN hl hS hT'
  go_enter Tryd.func3, Tryd.ntmps3
  go_upto_region 4 with (first | (go_at_call 7; refine (live13_any _ HT.out).mono ?_; rintro e w1 ⟨rfl, hb1⟩; have Ym1 := Xm0.out.below hb1; have cm1 := Ym1.cells; have lm1 := Ym1.lt; have Xm1 := hidq (Ym1); have UA1 := hidq (UA0.out.below hb1); have Is1 := hidq (Is0.out.below hb1); have It1 := hidq (It0.out.below hb1); have B1 := hidq (below_trans B0.out hb1); clear hb1 Ym1))
  go_cut [14, 15, 16] (fun u v z wx => ∃ (g base : Nat), u = .pointer (some ⟨g, 0, none⟩) ∧ z = .int .i64 e ∧ Bx9 wx g x ∧ wx.ownsRow base 43 3 v L.length (elTm.cells L) ∧ Below w1.heap.size w1 wx)
  case first =>
    have BD1 := hidq (show Below w1.heap.size w1 w1.drew from (Below.refl _ _).drew)
    go_region_law (first | (first | (refine step_append_sl (E := elInt) rfl _ _ rfl (w1.heap.size + 1) _ _ [] rfl (World.ownsRow_nil _ _ _ _) _ S rfl (Is1.out.drew.alloc _) (by omega) (by simp) ?_; intro v7 w7 hown7 hgrow7; have hg7 := below_grownq hgrow7 rfl; have hb7 : Below w1.heap.size w1 w7 := below_trans (below_one BD1.out) hg7; have Z7 : Bx9 w7 w1.heap.size M.zV := Bx9.below (zbox w1.drew) hg7; have Y7 := Xm1.out.below hb7; have cm7 := Y7.cells; have lm7 := Y7.lt; have s7 := hb7.size) | (refine step_append_sl (E := elInt) rfl _ _ rfl w1.heap.size _ _ [] rfl (World.ownsRow_nil _ _ _ _) _ S rfl Is1.out.drew (by omega) (Nat.le_refl _) ?_; intro v7 w7 hown7 hgrow7; have hb7 : Below w1.heap.size w1 w7 := below_trans BD1.out (below_grownq hgrow7 rfl); have Y7 := Xm1.out.below hb7; have cm7 := Y7.cells; have lm7 := Y7.lt; have s7 := hb7.size)) | (first | (refine step_append_sl (E := elInt) rfl _ _ rfl (w1.heap.size + 1) _ _ ([] ++ S) rfl hown7 _ T rfl (It1.out.below hb7) (by simp; omega) (by have := Z7.lt; omega) ?_; intro v8 w8 hown8 hgrow8; have hb8 : Below w1.heap.size w1 w8 := hb7.grown hgrow8 s7 (fun q hq => Nat.le_of_succ_le (hown7.lt q hq).1); have Z8 := Z7.grown9 hgrow8 (fun hq => absurd (hown7.lt _ hq).1 (by omega)); have Y8 := Xm1.out.below hb8; have cm8 := Y8.cells; have lm8 := Y8.lt; have s8 := hb8.size) | (refine step_append_sl (E := elInt) rfl _ _ rfl w1.heap.size _ _ ([] ++ S) rfl (hown7.alloc _) _ T rfl ((It1.out.below hb7).alloc _) (by simp; omega) (by simp; omega) ?_; intro v8 w8 hown8 hgrow8; have hb8 : Below w1.heap.size w1 w8 := (below_one hb7).grown hgrow8 (by simp; omega) (fun q hq => (hown7.lt q hq).1); have Z8 := (zbox w7).grown9 hgrow8 (fun hq => absurd (hown7.lt _ hq).2 (by omega)); have Y8 := Xm1.out.below hb8; have cm8 := Y8.cells; have lm8 := Y8.lt; have s8 := hb8.size) | (refine step_append_sl (E := elInt) rfl _ _ rfl w1.heap.size _ _ ([] ++ S) rfl hown7 _ T rfl (It1.out.below hb7) (by simp; omega) s7 ?_; intro v8 w8 hown8 hgrow8; have hb8 : Below w1.heap.size w1 w8 := hb7.grown hgrow8 s7 (fun q hq => (hown7.lt q hq).1); have Y8 := Xm1.out.below hb8; have cm8 := Y8.cells; have lm8 := Y8.lt; have s8 := hb8.size)) | (go_simp; go_at_call 8; (first | (refine (HALL.out _ _ _ (UA1.out.below hb8) (ist_of hown8 FS.out)).mono ?_; rintro r w9 ⟨v9, rfl, ho9, hb9⟩; have Z9 := Z8.below hb9; have fz9 := Z9.frozen; have cz9 := Z9.cells; have hbz := below_trans hb8 hb9; have LZ := Z8.lt) | (refine (HALL.out _ _ _ ((UA1.out.below hb8).alloc _) ((ist_of hown8 FS.out).alloc _)).mono ?_; rintro r w9 ⟨v9, rfl, ho9, hb9⟩; have Z9 := (zbox w8).below hb9; have fz9 := Z9.frozen; have cz9 := Z9.cells; have hbz := below_trans (below_one hb8) hb9; have LZ : w8.heap.size < (w8.alloc (.cells #[.bool false, .bool false, .int .u64 0, .int .u64 0, .int .u64 0, .int .u64 0, .int .u64 0, .int .u64 0, .int .i64 0] 29)).heap.size := (zbox w8).lt) | (refine (HALL.out _ _ _ (UA1.out.below hb8) (ist_of hown8 FS.out)).mono ?_; rintro r w9 ⟨v9, rfl, ho9, hb9⟩))))
    all_goals go_wp2
    all_goals go_meet
    all_goals first | exact ⟨_, _, rfl, rfl, Z9.set x, own_set9 ho9 LZ _ _ _ _ _ _ _ _ _, below_set9 hbz (by omega) _ _ _ _ _ _ _ _ _⟩ | exact ⟨_, _, rfl, rfl, Bx9.new w9 x, own_keptq ho9 (below_one (Below.refl _ _)), below_one (below_trans hb8 hb9)⟩
  case rest =>
  obtain ⟨gx, bx, rfl, rfl, hxv, hown, hq⟩ := hcut
  obtain ⟨ao9, cap9, rfl, -⟩ := own_formq hown
  have Xm10 := hidq (Xm1.out.below hq)
  have Xv10 := hidq hxv
  have UA10 := hidq (UA1.out.below hq)
  have Is10 := hidq (Is1.out.below hq)
  have It10 := hidq (It1.out.below hq)
  have B10 := hidq (below_trans B1.out hq)
  clear hown hq hxv Xm1 UA1 Is1 It1 B1 cm1 lm1
  have cm10 := Xm10.out.cells
  have cv10 := Xv10.out.cells
  have lm10 := Xm10.out.lt
  have lv10 := Xv10.out.lt
  go_wp2_with (first | (go_at_call 8; clear T11; refine (HA.out _ _ _ UA10.out Is10.out).mono ?_; rintro e w11 ⟨v11, rfl, ho11, hb11⟩; obtain ⟨ao11, cap11, rfl, -⟩ := own_formq ho11; have Ym11 := Xm10.out.below hb11; have cm11 := Ym11.cells; have lm11 := Ym11.lt; have Xm11 := hidq ((Ym11).alloc (.cells #[.bool y.1, .bool y.2.1, .int .u64 (M.nu y.2.2.1.1), .int .u64 (M.nu y.2.2.1.2), .int .u64 (M.nu y.2.2.2.1.1.1), .int .u64 (M.nu y.2.2.2.1.1.2), .int .u64 (M.nu y.2.2.2.1.2.1), .int .u64 (M.nu y.2.2.2.1.2.2), .int .i64 y.2.2.2.2] 29)); have Yv11 := Xv10.out.below hb11; have cv11 := Yv11.cells; have lv11 := Yv11.lt; have Xv11 := hidq ((Yv11).alloc (.cells #[.bool y.1, .bool y.2.1, .int .u64 (M.nu y.2.2.1.1), .int .u64 (M.nu y.2.2.1.2), .int .u64 (M.nu y.2.2.2.1.1.1), .int .u64 (M.nu y.2.2.2.1.1.2), .int .u64 (M.nu y.2.2.2.1.2.1), .int .u64 (M.nu y.2.2.2.1.2.2), .int .i64 y.2.2.2.2] 29)); have UA11 := hidq ((UA10.out.below hb11).alloc (.cells #[.bool y.1, .bool y.2.1, .int .u64 (M.nu y.2.2.1.1), .int .u64 (M.nu y.2.2.1.2), .int .u64 (M.nu y.2.2.2.1.1.1), .int .u64 (M.nu y.2.2.2.1.1.2), .int .u64 (M.nu y.2.2.2.1.2.1), .int .u64 (M.nu y.2.2.2.1.2.2), .int .i64 y.2.2.2.2] 29)); have Is11 := hidq ((Is10.out.below hb11).alloc (.cells #[.bool y.1, .bool y.2.1, .int .u64 (M.nu y.2.2.1.1), .int .u64 (M.nu y.2.2.1.2), .int .u64 (M.nu y.2.2.2.1.1.1), .int .u64 (M.nu y.2.2.2.1.1.2), .int .u64 (M.nu y.2.2.2.1.2.1), .int .u64 (M.nu y.2.2.2.1.2.2), .int .i64 y.2.2.2.2] 29)); have It11 := hidq ((It10.out.below hb11).alloc (.cells #[.bool y.1, .bool y.2.1, .int .u64 (M.nu y.2.2.1.1), .int .u64 (M.nu y.2.2.1.2), .int .u64 (M.nu y.2.2.2.1.1.1), .int .u64 (M.nu y.2.2.2.1.1.2), .int .u64 (M.nu y.2.2.2.1.2.1), .int .u64 (M.nu y.2.2.2.1.2.2), .int .i64 y.2.2.2.2] 29)); have Xo11 := hidq (Bx9.new w11 y); have B11 := hidq (below_one (o := (.cells #[.bool y.1, .bool y.2.1, .int .u64 (M.nu y.2.2.1.1), .int .u64 (M.nu y.2.2.1.2), .int .u64 (M.nu y.2.2.2.1.1.1), .int .u64 (M.nu y.2.2.2.1.1.2), .int .u64 (M.nu y.2.2.2.1.2.1), .int .u64 (M.nu y.2.2.2.1.2.2), .int .i64 y.2.2.2.2] 29)) (below_trans B10.out hb11)); clear ho11; clear cm10 lm10 cv10 lv10; clear hb11 Ym11 Yv11) | (go_at_call 10; refine (HN.out _ _ UA11.out).mono ?_; rintro e w12 ⟨v12, rfl, ho12, hb12⟩; obtain ⟨ao12, cap12, rfl, -⟩ := own_formq ho12; have Ym12 := Xm11.out.below hb12; have cm12 := Ym12.cells; have lm12 := Ym12.lt; have Xm12 := hidq ((Ym12).alloc (.cells #[.bool v.1, .bool v.2.1, .int .u64 (M.nu v.2.2.1.1), .int .u64 (M.nu v.2.2.1.2), .int .u64 (M.nu v.2.2.2.1.1.1), .int .u64 (M.nu v.2.2.2.1.1.2), .int .u64 (M.nu v.2.2.2.1.2.1), .int .u64 (M.nu v.2.2.2.1.2.2), .int .i64 v.2.2.2.2] 29)); have UA12 := hidq ((UA11.out.below hb12).alloc (.cells #[.bool v.1, .bool v.2.1, .int .u64 (M.nu v.2.2.1.1), .int .u64 (M.nu v.2.2.1.2), .int .u64 (M.nu v.2.2.2.1.1.1), .int .u64 (M.nu v.2.2.2.1.1.2), .int .u64 (M.nu v.2.2.2.1.2.1), .int .u64 (M.nu v.2.2.2.1.2.2), .int .i64 v.2.2.2.2] 29)); have UN12 := hidq ((ts_ofown ho12 KN.out).alloc (.cells #[.bool v.1, .bool v.2.1, .int .u64 (M.nu v.2.2.1.1), .int .u64 (M.nu v.2.2.1.2), .int .u64 (M.nu v.2.2.2.1.1.1), .int .u64 (M.nu v.2.2.2.1.1.2), .int .u64 (M.nu v.2.2.2.1.2.1), .int .u64 (M.nu v.2.2.2.1.2.2), .int .i64 v.2.2.2.2] 29)); have Xv12 := hidq (Bx9.new w12 v); have B12 := hidq (below_one (o := (.cells #[.bool v.1, .bool v.2.1, .int .u64 (M.nu v.2.2.1.1), .int .u64 (M.nu v.2.2.1.2), .int .u64 (M.nu v.2.2.2.1.1.1), .int .u64 (M.nu v.2.2.2.1.1.2), .int .u64 (M.nu v.2.2.2.1.2.1), .int .u64 (M.nu v.2.2.2.1.2.2), .int .i64 v.2.2.2.2] 29)) (below_trans B11.out hb12)); clear ho12; clear cm11 lm11 cv11 lv11; clear hb12 Ym12))
  have XM := Xm12
  have XV := Xv12
  have UX := UA12
  have UY := UN12
  have BZ := B12
  obtain ⟨wz, hwz⟩ : ∃ wz, wz = (w12.alloc (.cells #[.bool v.1, .bool v.2.1, .int .u64 (M.nu v.2.2.1.1), .int .u64 (M.nu v.2.2.1.2), .int .u64 (M.nu v.2.2.2.1.1.1), .int .u64 (M.nu v.2.2.2.1.1.2), .int .u64 (M.nu v.2.2.2.1.2.1), .int .u64 (M.nu v.2.2.2.1.2.2), .int .i64 v.2.2.2.2] 29)) := ⟨_, rfl⟩
  rw [← hwz] at XM XV UX UY BZ ⊢
  obtain ⟨gv, hgv⟩ : ∃ g, w12.heap.size = g := ⟨_, rfl⟩
  rw [hgv] at XV ⊢
  clear Xm12 Xv12 UA12 UN12 B12 hwz hgv cm12 lm12
  go_loopw [111] (fun i wr => ∃ s : Nat, s ≤ 2 ∧ i = .int .i64 s ∧ Below wz.heap.size wz wr) (fun i _ => 2 - (intOf i).toNat)
  case atStart => exact ⟨0, by omega, rfl, Below.refl _ _⟩
  case round =>
    obtain ⟨s, hs, rfl, hb⟩ := hrel
    have Xm30 := hidq (XM.out.below hb)
    have Xv30 := hidq (XV.out.below hb)
    have UA30 := hidq (UX.out.below hb)
    have UN30 := hidq (UY.out.below hb)
    have B30 := hidq (show Below wz.heap.size wz wr from hb)
    have cm30 := Xm30.out.cells
    have cv30 := Xv30.out.cells
    have lm30 := Xm30.out.lt
    have lv30 := Xv30.out.lt
    by_cases hlt : s < 2
    · have hsi : (s : Int) < 2 := by omega
      have FJ := hidq (show M.fitI (s : Int) from ⟨by omega, by omega⟩)
      by_cases hc : M.childE h n s = 0
      · obtain ⟨y2, B2, hp, hr⟩ := HC.out s hc
        obtain ⟨-, -, -, hcV⟩ := M.childE_zero hc
        have hk2 := (M.node_err0 hp).1
        have c0 := (M.ok_of hk2).2.2.1
        have c1 := M.ok_lt hk2
        have HP := hidq (fun W vl (u : Ts W vl A) => lnode_eq hp (by omega) (by omega) (vl := vl) W u)
        have HR := hidq (fun W vl vs (u : Ts W vl N) (us : Is W vs [(s : Int)]) => lwalk_eq hr (vl := vl) (vs := vs) W u us)
        have KP := hidq (M.opn_iff.1 (M.wkR_facts _ (M.node_err0 hp).2.1 M.opn3_path (M.node_err0 hp).2.2).1).1
        have hcE := hc
        clear hp hr hk2 hb hc
        go_wp2_with (first | (go_at_call 11; refine (child_any h n _ _ n0 n1).mono ?_; rw [hcV, hcE]; rintro e w' ⟨rfl, hw⟩; subst w') | (go_at_call 10; refine (HP.out _ _ UA30.out).mono ?_; rintro e w31 ⟨v31, rfl, ho31, hb31⟩; obtain ⟨ao31, cap31, rfl, -⟩ := own_formq ho31; have Ym31 := Xm30.out.below hb31; have cm31 := Ym31.cells; have lm31 := Ym31.lt; have Xm31 := hidq ((Ym31).alloc (.cells #[.bool y2.1, .bool y2.2.1, .int .u64 (M.nu y2.2.2.1.1), .int .u64 (M.nu y2.2.2.1.2), .int .u64 (M.nu y2.2.2.2.1.1.1), .int .u64 (M.nu y2.2.2.2.1.1.2), .int .u64 (M.nu y2.2.2.2.1.2.1), .int .u64 (M.nu y2.2.2.2.1.2.2), .int .i64 y2.2.2.2.2] 29)); have Yv31 := Xv30.out.below hb31; have cv31 := Yv31.cells; have lv31 := Yv31.lt; have Xv31 := hidq ((Yv31).alloc (.cells #[.bool y2.1, .bool y2.2.1, .int .u64 (M.nu y2.2.2.1.1), .int .u64 (M.nu y2.2.2.1.2), .int .u64 (M.nu y2.2.2.2.1.1.1), .int .u64 (M.nu y2.2.2.2.1.1.2), .int .u64 (M.nu y2.2.2.2.1.2.1), .int .u64 (M.nu y2.2.2.2.1.2.2), .int .i64 y2.2.2.2.2] 29)); have UA31 := hidq ((UA30.out.below hb31).alloc (.cells #[.bool y2.1, .bool y2.2.1, .int .u64 (M.nu y2.2.2.1.1), .int .u64 (M.nu y2.2.2.1.2), .int .u64 (M.nu y2.2.2.2.1.1.1), .int .u64 (M.nu y2.2.2.2.1.1.2), .int .u64 (M.nu y2.2.2.2.1.2.1), .int .u64 (M.nu y2.2.2.2.1.2.2), .int .i64 y2.2.2.2.2] 29)); have UN31 := hidq ((UN30.out.below hb31).alloc (.cells #[.bool y2.1, .bool y2.2.1, .int .u64 (M.nu y2.2.2.1.1), .int .u64 (M.nu y2.2.2.1.2), .int .u64 (M.nu y2.2.2.2.1.1.1), .int .u64 (M.nu y2.2.2.2.1.1.2), .int .u64 (M.nu y2.2.2.2.1.2.1), .int .u64 (M.nu y2.2.2.2.1.2.2), .int .i64 y2.2.2.2.2] 29)); have UP31 := hidq ((ts_ofown ho31 KP.out).alloc (.cells #[.bool y2.1, .bool y2.2.1, .int .u64 (M.nu y2.2.2.1.1), .int .u64 (M.nu y2.2.2.1.2), .int .u64 (M.nu y2.2.2.2.1.1.1), .int .u64 (M.nu y2.2.2.2.1.1.2), .int .u64 (M.nu y2.2.2.2.1.2.1), .int .u64 (M.nu y2.2.2.2.1.2.2), .int .i64 y2.2.2.2.2] 29)); have Xp31 := hidq (Bx9.new w31 y2); have B31 := hidq (below_one (o := (.cells #[.bool y2.1, .bool y2.2.1, .int .u64 (M.nu y2.2.2.1.1), .int .u64 (M.nu y2.2.2.1.2), .int .u64 (M.nu y2.2.2.2.1.1.1), .int .u64 (M.nu y2.2.2.2.1.1.2), .int .u64 (M.nu y2.2.2.2.1.2.1), .int .u64 (M.nu y2.2.2.2.1.2.2), .int .i64 y2.2.2.2.2] 29)) (below_trans B30.out hb31)); clear ho31; clear cm30 lm30 cv30 lv30; clear hb31 Ym31 Yv31) | (go_at_call 8; refine (HR.out _ _ _ (UN31.out.alloc _) (Is.oneg _ _ _ (by simp) FJ.out)).mono ?_; rintro e w32 ⟨v32, rfl, ho32, hb32⟩; replace hb32 := below_trans (below_one (o := (.cells #[.int .i64 (s : Int)] 3)) (Below.refl _ _)) hb32; obtain ⟨ao32, cap32, rfl, -⟩ := own_formq ho32; have Ym32 := Xm31.out.below hb32; have cm32 := Ym32.cells; have lm32 := Ym32.lt; have Xm32 := hidq ((Ym32).alloc (.cells #[.bool y2.1, .bool y2.2.1, .int .u64 (M.nu y2.2.2.1.1), .int .u64 (M.nu y2.2.2.1.2), .int .u64 (M.nu y2.2.2.2.1.1.1), .int .u64 (M.nu y2.2.2.2.1.1.2), .int .u64 (M.nu y2.2.2.2.1.2.1), .int .u64 (M.nu y2.2.2.2.1.2.2), .int .i64 y2.2.2.2.2] 29)); have Yv32 := Xv31.out.below hb32; have cv32 := Yv32.cells; have lv32 := Yv32.lt; have Xv32 := hidq ((Yv32).alloc (.cells #[.bool y2.1, .bool y2.2.1, .int .u64 (M.nu y2.2.2.1.1), .int .u64 (M.nu y2.2.2.1.2), .int .u64 (M.nu y2.2.2.2.1.1.1), .int .u64 (M.nu y2.2.2.2.1.1.2), .int .u64 (M.nu y2.2.2.2.1.2.1), .int .u64 (M.nu y2.2.2.2.1.2.2), .int .i64 y2.2.2.2.2] 29)); have Yp32 := Xp31.out.below hb32; have cp32 := Yp32.cells; have lp32 := Yp32.lt; have Xp32 := hidq ((Yp32).alloc (.cells #[.bool y2.1, .bool y2.2.1, .int .u64 (M.nu y2.2.2.1.1), .int .u64 (M.nu y2.2.2.1.2), .int .u64 (M.nu y2.2.2.2.1.1.1), .int .u64 (M.nu y2.2.2.2.1.1.2), .int .u64 (M.nu y2.2.2.2.1.2.1), .int .u64 (M.nu y2.2.2.2.1.2.2), .int .i64 y2.2.2.2.2] 29)); have UA32 := hidq ((UA31.out.below hb32).alloc (.cells #[.bool y2.1, .bool y2.2.1, .int .u64 (M.nu y2.2.2.1.1), .int .u64 (M.nu y2.2.2.1.2), .int .u64 (M.nu y2.2.2.2.1.1.1), .int .u64 (M.nu y2.2.2.2.1.1.2), .int .u64 (M.nu y2.2.2.2.1.2.1), .int .u64 (M.nu y2.2.2.2.1.2.2), .int .i64 y2.2.2.2.2] 29)); have UN32 := hidq ((UN31.out.below hb32).alloc (.cells #[.bool y2.1, .bool y2.2.1, .int .u64 (M.nu y2.2.2.1.1), .int .u64 (M.nu y2.2.2.1.2), .int .u64 (M.nu y2.2.2.2.1.1.1), .int .u64 (M.nu y2.2.2.2.1.1.2), .int .u64 (M.nu y2.2.2.2.1.2.1), .int .u64 (M.nu y2.2.2.2.1.2.2), .int .i64 y2.2.2.2.2] 29)); have UP32 := hidq ((UP31.out.below hb32).alloc (.cells #[.bool y2.1, .bool y2.2.1, .int .u64 (M.nu y2.2.2.1.1), .int .u64 (M.nu y2.2.2.1.2), .int .u64 (M.nu y2.2.2.2.1.1.1), .int .u64 (M.nu y2.2.2.2.1.1.2), .int .u64 (M.nu y2.2.2.2.1.2.1), .int .u64 (M.nu y2.2.2.2.1.2.2), .int .i64 y2.2.2.2.2] 29)); have UQ32 := hidq ((ts_ofown ho32 KP.out).alloc (.cells #[.bool y2.1, .bool y2.2.1, .int .u64 (M.nu y2.2.2.1.1), .int .u64 (M.nu y2.2.2.1.2), .int .u64 (M.nu y2.2.2.2.1.1.1), .int .u64 (M.nu y2.2.2.2.1.1.2), .int .u64 (M.nu y2.2.2.2.1.2.1), .int .u64 (M.nu y2.2.2.2.1.2.2), .int .i64 y2.2.2.2.2] 29)); have Xq32 := hidq (Bx9.new w32 y2); have B32 := hidq (below_one (o := (.cells #[.bool y2.1, .bool y2.2.1, .int .u64 (M.nu y2.2.2.1.1), .int .u64 (M.nu y2.2.2.1.2), .int .u64 (M.nu y2.2.2.2.1.1.1), .int .u64 (M.nu y2.2.2.2.1.1.2), .int .u64 (M.nu y2.2.2.2.1.2.1), .int .u64 (M.nu y2.2.2.2.1.2.2), .int .i64 y2.2.2.2.2] 29)) (below_trans B31.out hb32)); clear ho32; clear cm31 lm31 cv31 lv31; clear hb32 Ym32 Yv32 Yp32) | (go_at_call 9; refine (rsame5 UP32.out UQ32.out).mono ?_; rintro e w33 ⟨rfl, hb33⟩; have Ym33 := Xm32.out.below hb33; have cm33 := Ym33.cells; have lm33 := Ym33.lt; have Xm33 := hidq (Ym33); have Yv33 := Xv32.out.below hb33; have cv33 := Yv33.cells; have lv33 := Yv33.lt; have Xv33 := hidq (Yv33); have Yp33 := Xp32.out.below hb33; have cp33 := Yp33.cells; have lp33 := Yp33.lt; have Xp33 := hidq (Yp33); have Yq33 := Xq32.out.below hb33; have cq33 := Yq33.cells; have lq33 := Yq33.lt; have Xq33 := hidq (Yq33); have UA33 := hidq (UA32.out.below hb33); have UN33 := hidq (UN32.out.below hb33); have UP33 := hidq (UP32.out.below hb33); have UQ33 := hidq (UQ32.out.below hb33); have B33 := hidq (below_trans B32.out hb33); clear cm32 lm32 cp32 lp32 cv32 lv32; clear hb33 Ym33 Yv33 Yp33 Yq33))
        go_roundw
        case rel => exact ⟨s + 1, by omega, by go_num, B33.out⟩
        case measure => simp [intOf]; omega
      · obtain ⟨q, hcE⟩ : ∃ q, M.childE h n s = q := ⟨_, rfl⟩
        rw [hcE] at hc
        have hqb : (q == 0) = false := beq_eq_false_iff_ne.2 hc
        have hqc : (q != 0) = true := by simpa using hc
        clear hb
        go_wp2_with (first | (go_at_call 11; refine (child_any h n _ _ n0 n1).mono ?_; rw [hcE]; rintro e w' ⟨rfl, hw⟩; subst w'))
        go_roundw
        case rel => exact ⟨s + 1, by omega, by go_num, B30.out⟩
        case measure => simp [intOf]; omega
    · obtain rfl : s = 2 := by omega
      have hsi : ¬ ((2 : Nat) : Int) < 2 := by omega
      clear hb
      go_wp2
      go_ret
      exact ⟨rfl, below_trans BZ.out B30.out⟩
end Go.Proofs.YtomhccendbnamaaDoor
