/-
  The law LabelWalks returns true at every input: one of its ways. Conditions: the slices hold terms, the numbers fit their kinds, the two tables read as their text lays them.
-/
import Derived.Test.YtomhccendbnamaaDoorZL13Walks0
import Derived.Test.YtomhccendbnamaaDoorZTR
import Derived.Deep.DeepCutAuto
namespace Go.Proofs.YtomhccendbnamaaDoor
open Go.RowKit
set_option maxRecDepth 100000 in
set_option maxHeartbeats 8000000 in
theorem labelWalks_00 {A : List M.Tm} {h : Int} {m : M.Val} {n : Int} {S T : List Int} {x y : M.Val} {L B : List M.Tm} {e : Int} {N : List M.Tm} {f : Int} {e' : Int} (hx : M.walkA A m (S ++ T) = (x, L, e)) (he : ¬ e = 0) (ha : M.walkA A m S = (y, B, e')) (hn : M.nodeA A h m n = (M.zV, N, f)) (hf : ¬ f = 0) (hl : A.length ≤ 60) (hS : S.length ≤ 30) (hT' : T.length ≤ 30) (n0 : 0 ≤ n) (n1 : n ≤ 18446744073709551615) {vl vs vt : Value} (w : World) (hT : Tab w) (u : Ts w vl A) (us : Is w vs S) (ut : Is w vt T) :
    Calls Tryd.prog 3 #[vl, .int .i64 h, (.agg #[.bool m.1, .bool m.2.1, .int .u64 (M.nu m.2.2.1.1), .int .u64 (M.nu m.2.2.1.2), .int .u64 (M.nu m.2.2.2.1.1.1), .int .u64 (M.nu m.2.2.2.1.1.2), .int .u64 (M.nu m.2.2.2.1.2.1), .int .u64 (M.nu m.2.2.2.1.2.2), .int .i64 m.2.2.2.2]), .int .u64 n, vs, vt] w fun e w' => e = .returned (.bool true) ∧ Below w.heap.size w w' := by
  have heq := eqVa
  obtain ⟨al, cl, rfl, -, -, -⟩ := u.form
  obtain ⟨as_, cs, rfl, -, -, -⟩ := us.form
  obtain ⟨at_, ct, rfl, -, -, -⟩ := ut.form
  have Xm0 := hidq (Bx9.new w m)
  have UA0 := hidq (u.alloc (.cells #[.bool m.1, .bool m.2.1, .int .u64 (M.nu m.2.2.1.1), .int .u64 (M.nu m.2.2.1.2), .int .u64 (M.nu m.2.2.2.1.1.1), .int .u64 (M.nu m.2.2.2.1.1.2), .int .u64 (M.nu m.2.2.2.1.2.1), .int .u64 (M.nu m.2.2.2.1.2.2), .int .i64 m.2.2.2.2] 29))
  have Is0 := hidq (us.alloc (.cells #[.bool m.1, .bool m.2.1, .int .u64 (M.nu m.2.2.1.1), .int .u64 (M.nu m.2.2.1.2), .int .u64 (M.nu m.2.2.2.1.1.1), .int .u64 (M.nu m.2.2.2.1.1.2), .int .u64 (M.nu m.2.2.2.1.2.1), .int .u64 (M.nu m.2.2.2.1.2.2), .int .i64 m.2.2.2.2] 29))
  have It0 := hidq (ut.alloc (.cells #[.bool m.1, .bool m.2.1, .int .u64 (M.nu m.2.2.1.1), .int .u64 (M.nu m.2.2.1.2), .int .u64 (M.nu m.2.2.2.1.1.1), .int .u64 (M.nu m.2.2.2.1.1.2), .int .u64 (M.nu m.2.2.2.1.2.1), .int .u64 (M.nu m.2.2.2.1.2.2), .int .i64 m.2.2.2.2] 29))
  have B0 := hidq (show Below w.heap.size w (w.alloc (.cells #[.bool m.1, .bool m.2.1, .int .u64 (M.nu m.2.2.1.1), .int .u64 (M.nu m.2.2.1.2), .int .u64 (M.nu m.2.2.2.1.1.1), .int .u64 (M.nu m.2.2.2.1.1.2), .int .u64 (M.nu m.2.2.2.1.2.1), .int .u64 (M.nu m.2.2.2.1.2.2), .int .i64 m.2.2.2.2] 29)) from below_one (Below.refl _ _))
  have cm0 := Xm0.out.cells
  have HT := hidq (hT.below B0.out)
  have FS := hidq (show ∀ x ∈ S ++ T, M.fitI x from fun x hx => by rcases List.mem_append.1 hx with h | h; exact us.oks x h; exact ut.oks x h)
  clear hT
  have HALL := hidq (fun W vl vs (u : Ts W vl A) (us : Is W vs (S ++ T)) => lwalk_eq hx (vl := vl) (vs := vs) W u us)
  have HA := hidq (fun W vl vs (u : Ts W vl A) (us : Is W vs S) => lwalk_eq ha (vl := vl) (vs := vs) W u us)
  have heb : (e == 0) = false := beq_eq_false_iff_ne.2 he
  have hec : (e != 0) = true := by simpa using he
  have HN := hidq (fun W vl (u : Ts W vl A) => zV_eq ▸ lnode_eq hn n0 n1 (vl := vl) W u)
  have hfb : (f == 0) = false := beq_eq_false_iff_ne.2 hf
  have hfc : (f != 0) = true := by simpa using hf
  have hl1 : ¬ (60 : Int) < A.length := by omega
  have hl2 : ¬ (30 : Int) < S.length := by omega
  have hl3 : ¬ (30 : Int) < T.length := by omega
  have T11 := hidq trivial
  clear u us ut hx ha hn hl hS hT'
  go_enter Tryd.func3, Tryd.ntmps3
  go_upto_region 4 with (first | (go_at_call 7; refine (live13_any _ HT.out).mono ?_; rintro e w1 ⟨rfl, hb1⟩; have Ym1 := Xm0.out.below hb1; have cm1 := Ym1.cells; have lm1 := Ym1.lt; have Xm1 := hidq (Ym1); have UA1 := hidq (UA0.out.below hb1); have Is1 := hidq (Is0.out.below hb1); have It1 := hidq (It0.out.below hb1); have B1 := hidq (below_trans B0.out hb1); clear hb1 Ym1))
  go_cut [14, 15, 16] (fun u v z wx => ∃ (g base : Nat), u = .pointer (some ⟨g, 0, none⟩) ∧ z = .int .i64 e ∧ Bx9 wx g x ∧ wx.ownsRow base 43 3 v L.length (elTm.cells L) ∧ Below w1.heap.size w1 wx)
  case first =>
    have BD1 := hidq (show Below w1.heap.size w1 w1.drew from (Below.refl _ _).drew)
    go_region_law (first | (first | (refine step_append_sl (E := elInt) rfl _ _ rfl (w1.heap.size + 1) _ _ [] rfl (World.ownsRow_nil _ _ _ _) _ S rfl (Is1.out.drew.alloc _) (by omega) (by simp) ?_; intro v7 w7 hown7 hgrow7; have hg7 := below_grownq hgrow7 rfl; have hb7 : Below w1.heap.size w1 w7 := below_trans (below_one BD1.out) hg7; have Z7 : Bx9 w7 w1.heap.size M.zV := Bx9.below (zbox w1.drew) hg7; have Y7 := Xm1.out.below hb7; have cm7 := Y7.cells; have lm7 := Y7.lt; have s7 := hb7.size) | (refine step_append_sl (E := elInt) rfl _ _ rfl w1.heap.size _ _ [] rfl (World.ownsRow_nil _ _ _ _) _ S rfl Is1.out.drew (by omega) (Nat.le_refl _) ?_; intro v7 w7 hown7 hgrow7; have hb7 : Below w1.heap.size w1 w7 := below_trans BD1.out (below_grownq hgrow7 rfl); have Y7 := Xm1.out.below hb7; have cm7 := Y7.cells; have lm7 := Y7.lt; have s7 := hb7.size)) | (first | (refine step_append_sl (E := elInt) rfl _ _ rfl (w1.heap.size + 1) _ _ ([] ++ S) rfl hown7 _ T rfl (It1.out.below hb7) (by simp; omega) (by have := Z7.lt; omega) ?_; intro v8 w8 hown8 hgrow8; have hb8 : Below w1.heap.size w1 w8 := hb7.grown hgrow8 s7 (fun q hq => Nat.le_of_succ_le (hown7.lt q hq).1); have Z8 := Z7.grown9 hgrow8 (fun hq => absurd (hown7.lt _ hq).1 (by omega)); have Y8 := Xm1.out.below hb8; have cm8 := Y8.cells; have lm8 := Y8.lt; have s8 := hb8.size) | (refine step_append_sl (E := elInt) rfl _ _ rfl w1.heap.size _ _ ([] ++ S) rfl (hown7.alloc _) _ T rfl ((It1.out.below hb7).alloc _) (by simp; omega) (by simp; omega) ?_; intro v8 w8 hown8 hgrow8; have hb8 : Below w1.heap.size w1 w8 := (below_one hb7).grown hgrow8 (by simp; omega) (fun q hq => (hown7.lt q hq).1); have Z8 := (zbox w7).grown9 hgrow8 (fun hq => absurd (hown7.lt _ hq).2 (by omega)); have Y8 := Xm1.out.below hb8; have cm8 := Y8.cells; have lm8 := Y8.lt; have s8 := hb8.size) | (refine step_append_sl (E := elInt) rfl _ _ rfl w1.heap.size _ _ ([] ++ S) rfl hown7 _ T rfl (It1.out.below hb7) (by simp; omega) s7 ?_; intro v8 w8 hown8 hgrow8; have hb8 : Below w1.heap.size w1 w8 := hb7.grown hgrow8 s7 (fun q hq => (hown7.lt q hq).1); have Y8 := Xm1.out.below hb8; have cm8 := Y8.cells; have lm8 := Y8.lt; have s8 := hb8.size)) | (go_simp; go_at_call 8; (first | (refine (HALL.out _ _ _ (UA1.out.below hb8) (ist_of hown8 FS.out)).mono ?_; rintro r w9 ⟨v9, rfl, ho9, hb9⟩; have Z9 := Z8.below hb9; have fz9 := Z9.frozen; have cz9 := Z9.cells; have hbz := below_trans hb8 hb9; have LZ := Z8.lt) | (refine (HALL.out _ _ _ ((UA1.out.below hb8).alloc _) ((ist_of hown8 FS.out).alloc _)).mono ?_; rintro r w9 ⟨v9, rfl, ho9, hb9⟩; have Z9 := (zbox w8).below hb9; have fz9 := Z9.frozen; have cz9 := Z9.cells; have hbz := below_trans (below_one hb8) hb9; have LZ : w8.heap.size < (w8.alloc (.cells #[.bool false, .bool false, .int .u64 0, .int .u64 0, .int .u64 0, .int .u64 0, .int .u64 0, .int .u64 0, .int .i64 0] 29)).heap.size := (zbox w8).lt) | (refine (HALL.out _ _ _ (UA1.out.below hb8) (ist_of hown8 FS.out)).mono ?_; rintro r w9 ⟨v9, rfl, ho9, hb9⟩))))
    all_goals go_wp2
    all_goals go_meet
    all_goals first | exact ⟨_, _, rfl, rfl, Z9.set x, own_set9 ho9 LZ _ _ _ _ _ _ _ _ _, below_set9 hbz (by omega) _ _ _ _ _ _ _ _ _⟩ | exact ⟨_, _, rfl, rfl, Bx9.new w9 x, own_keptq ho9 (below_one (Below.refl _ _)), below_one (below_trans hb8 hb9)⟩
  case rest =>
  obtain ⟨gx, bx, rfl, rfl, hxv, hown, hq⟩ := hcut
  obtain ⟨ao9, cap9, rfl, -⟩ := own_formq hown
  have Xm10 := hidq (Xm1.out.below hq)
  have Xv10 := hidq hxv
  have UA10 := hidq (UA1.out.below hq)
  have Is10 := hidq (Is1.out.below hq)
  have It10 := hidq (It1.out.below hq)
  have B10 := hidq (below_trans B1.out hq)
  clear hown hq hxv Xm1 UA1 Is1 It1 B1 cm1 lm1
  have cm10 := Xm10.out.cells
  have cv10 := Xv10.out.cells
  have lm10 := Xm10.out.lt
  have lv10 := Xv10.out.lt
  go_wp2_with (first | (go_at_call 8; clear T11; refine (HA.out _ _ _ UA10.out Is10.out).mono ?_; rintro e w11 ⟨v11, rfl, ho11, hb11⟩; obtain ⟨ao11, cap11, rfl, -⟩ := own_formq ho11; have Ym11 := Xm10.out.below hb11; have cm11 := Ym11.cells; have lm11 := Ym11.lt; have Xm11 := hidq ((Ym11).alloc (.cells #[.bool y.1, .bool y.2.1, .int .u64 (M.nu y.2.2.1.1), .int .u64 (M.nu y.2.2.1.2), .int .u64 (M.nu y.2.2.2.1.1.1), .int .u64 (M.nu y.2.2.2.1.1.2), .int .u64 (M.nu y.2.2.2.1.2.1), .int .u64 (M.nu y.2.2.2.1.2.2), .int .i64 y.2.2.2.2] 29)); have Yv11 := Xv10.out.below hb11; have cv11 := Yv11.cells; have lv11 := Yv11.lt; have Xv11 := hidq ((Yv11).alloc (.cells #[.bool y.1, .bool y.2.1, .int .u64 (M.nu y.2.2.1.1), .int .u64 (M.nu y.2.2.1.2), .int .u64 (M.nu y.2.2.2.1.1.1), .int .u64 (M.nu y.2.2.2.1.1.2), .int .u64 (M.nu y.2.2.2.1.2.1), .int .u64 (M.nu y.2.2.2.1.2.2), .int .i64 y.2.2.2.2] 29)); have UA11 := hidq ((UA10.out.below hb11).alloc (.cells #[.bool y.1, .bool y.2.1, .int .u64 (M.nu y.2.2.1.1), .int .u64 (M.nu y.2.2.1.2), .int .u64 (M.nu y.2.2.2.1.1.1), .int .u64 (M.nu y.2.2.2.1.1.2), .int .u64 (M.nu y.2.2.2.1.2.1), .int .u64 (M.nu y.2.2.2.1.2.2), .int .i64 y.2.2.2.2] 29)); have Is11 := hidq ((Is10.out.below hb11).alloc (.cells #[.bool y.1, .bool y.2.1, .int .u64 (M.nu y.2.2.1.1), .int .u64 (M.nu y.2.2.1.2), .int .u64 (M.nu y.2.2.2.1.1.1), .int .u64 (M.nu y.2.2.2.1.1.2), .int .u64 (M.nu y.2.2.2.1.2.1), .int .u64 (M.nu y.2.2.2.1.2.2), .int .i64 y.2.2.2.2] 29)); have It11 := hidq ((It10.out.below hb11).alloc (.cells #[.bool y.1, .bool y.2.1, .int .u64 (M.nu y.2.2.1.1), .int .u64 (M.nu y.2.2.1.2), .int .u64 (M.nu y.2.2.2.1.1.1), .int .u64 (M.nu y.2.2.2.1.1.2), .int .u64 (M.nu y.2.2.2.1.2.1), .int .u64 (M.nu y.2.2.2.1.2.2), .int .i64 y.2.2.2.2] 29)); have Xo11 := hidq (Bx9.new w11 y); have B11 := hidq (below_one (o := (.cells #[.bool y.1, .bool y.2.1, .int .u64 (M.nu y.2.2.1.1), .int .u64 (M.nu y.2.2.1.2), .int .u64 (M.nu y.2.2.2.1.1.1), .int .u64 (M.nu y.2.2.2.1.1.2), .int .u64 (M.nu y.2.2.2.1.2.1), .int .u64 (M.nu y.2.2.2.1.2.2), .int .i64 y.2.2.2.2] 29)) (below_trans B10.out hb11)); clear ho11; clear cm10 lm10 cv10 lv10; clear hb11 Ym11 Yv11) | (go_at_call 10; refine (HN.out _ _ UA11.out).mono ?_; rintro e w12 ⟨v12, rfl, ho12, hb12⟩; obtain ⟨ao12, cap12, rfl, -⟩ := own_formq ho12; have Ym12 := Xm11.out.below hb12; have cm12 := Ym12.cells; have lm12 := Ym12.lt; have Xm12 := hidq ((Ym12).alloc (.cells #[.bool false, .bool false, .int .u64 0, .int .u64 0, .int .u64 0, .int .u64 0, .int .u64 0, .int .u64 0, .int .i64 0] 29)); have UA12 := hidq ((UA11.out.below hb12).alloc (.cells #[.bool false, .bool false, .int .u64 0, .int .u64 0, .int .u64 0, .int .u64 0, .int .u64 0, .int .u64 0, .int .i64 0] 29)); have B12 := hidq (below_one (o := (.cells #[.bool false, .bool false, .int .u64 0, .int .u64 0, .int .u64 0, .int .u64 0, .int .u64 0, .int .u64 0, .int .i64 0] 29)) (below_trans B11.out hb12)); clear ho12; clear cm11 lm11 cv11 lv11; clear hb12 Ym12))
  go_ret
  exact ⟨rfl, B12.out⟩
end Go.Proofs.YtomhccendbnamaaDoor
