/-
  The law StoreMay returns true at every input: what a leaf has may be what it has; of terms none of its values is another one's, and of octets it has as many. Conditions: the numbers fit their kinds.
-/
import Derived.Test.YthmiekinjfaflaaZSQ12
namespace Go.Proofs.Ythmiekinjfaflaa
open Go.RowKit
theorem ofT_lit14 : ((.agg #[.bool (M.ofT 0).1, .bool (M.ofT 0).2.1, .int .u64 (M.nu (M.ofT 0).2.2.1.1), .int .u64 (M.nu (M.ofT 0).2.2.1.2), .int .u64 (M.nu (M.ofT 0).2.2.2.1.1.1), .int .u64 (M.nu (M.ofT 0).2.2.2.1.1.2), .int .u64 (M.nu (M.ofT 0).2.2.2.1.2.1), .int .u64 (M.nu (M.ofT 0).2.2.2.1.2.2), .int .i64 (M.ofT 0).2.2.2.2]) : Value) = .agg #[.bool true, .bool false, .int .u64 0, .int .u64 0, .int .u64 0, .int .u64 0, .int .u64 0, .int .u64 0, .int .i64 0] := rfl
theorem ofB_lit14 (b : M.Blk) : ((.agg #[.bool (M.ofB b).1, .bool (M.ofB b).2.1, .int .u64 (M.nu (M.ofB b).2.2.1.1), .int .u64 (M.nu (M.ofB b).2.2.1.2), .int .u64 (M.nu (M.ofB b).2.2.2.1.1.1), .int .u64 (M.nu (M.ofB b).2.2.2.1.1.2), .int .u64 (M.nu (M.ofB b).2.2.2.1.2.1), .int .u64 (M.nu (M.ofB b).2.2.2.1.2.2), .int .i64 (M.ofB b).2.2.2.2]) : Value) = .agg #[.bool false, .bool false, .int .u64 (M.nu b.1), .int .u64 (M.nu b.2), .int .u64 0, .int .u64 0, .int .u64 0, .int .u64 0, .int .i64 0] := rfl
set_option maxRecDepth 100000 in
theorem ts_atom14 (W : World) (g : Nat) (hg : g = W.heap.size) : Ts (W.alloc (.cells #[.int .i64 1, .int .i64 0, .int .i64 0] 43)) (.slice (some ⟨g, 0, none⟩) 1 1) [(1, 0, 0)] := by
  subst hg
  exact Sl.of_own (E := elTm) (base := 0) (e := 43) (n := 1) ⟨rfl, .inr ⟨W.heap.size, 1, _, rfl, Nat.zero_le _, heap_alloc_new W _, Nat.le_refl _, by unfold maxLen; omega, rfl, rfl⟩⟩ (fun x hx => by simp at hx; subst hx; exact ⟨by constructor <;> decide, by constructor <;> decide, by constructor <;> decide⟩)
set_option maxRecDepth 100000 in
theorem val_ne14 {x y : M.Val} (h : x ≠ y) (w : World) : (Op.equalIn 10000 51 (.agg #[.bool x.1, .bool x.2.1, .int .u64 (M.nu x.2.2.1.1), .int .u64 (M.nu x.2.2.1.2), .int .u64 (M.nu x.2.2.2.1.1.1), .int .u64 (M.nu x.2.2.2.1.1.2), .int .u64 (M.nu x.2.2.2.1.2.1), .int .u64 (M.nu x.2.2.2.1.2.2), .int .i64 x.2.2.2.2]) (.agg #[.bool y.1, .bool y.2.1, .int .u64 (M.nu y.2.2.1.1), .int .u64 (M.nu y.2.2.1.2), .int .u64 (M.nu y.2.2.2.1.1.1), .int .u64 (M.nu y.2.2.2.1.1.2), .int .u64 (M.nu y.2.2.2.1.2.1), .int .u64 (M.nu y.2.2.2.1.2.2), .int .i64 y.2.2.2.2])).run Try.prog w = .ok false w := by
  rw [eqVa, val_beq, decide_eq_false h]
theorem M.opn_nilB (b : M.Blk) : M.opn [] (M.ofB b) = true := M.opn_iff.2 ⟨M.ok_nil, M.mb_ofB, by unfold M.sld M.ofB; rfl⟩
set_option maxRecDepth 100000 in
set_option maxHeartbeats 4000000 in
theorem storeMay_far (b : M.Blk) (h k i : Int) (w : World) (i0 : 0 ≤ i) (i1 : i ≤ 18446744073709551615) (hh : 8 < h) : Calls Try.prog 6 #[(.agg #[.int .u64 (M.nu b.1), .int .u64 (M.nu b.2)]), .int .i64 h, .int .i64 k, .int .u64 i] w fun e w' => e = .returned (.bool true) ∧ Below w.heap.size w w' := by
  have _hu := And.intro i0 i1
  have Xb0 := hidq (Bx2.new w b)
  have B0 := hidq (show Below w.heap.size w (w.alloc (.cells #[.int .u64 (M.nu b.1), .int .u64 (M.nu b.2)] 41)) from below_one (Below.refl _ _))
  have cb0 := Xb0.out.facts
  go_enter Try.func6, Try.ntmps6
  go_wp2_with (first | (go_at_call 8; refine (live14_any _).mono ?_; rintro e w1 ⟨rfl, hb1⟩; have Yb1 := Xb0.out.below hb1; have cb1 := Yb1.facts; have lb1 := Yb1.lt; have Xb1 := hidq (Yb1); have B1 := hidq (below_trans B0.out hb1); clear hb1 Yb1))
  go_ret
  exact ⟨rfl, B1.out⟩
set_option maxRecDepth 100000 in
set_option maxHeartbeats 4000000 in
theorem storeMay_no (b : M.Blk) (h k i : Int) (w : World) (i0 : 0 ≤ i) (i1 : i ≤ 18446744073709551615) (hh : h ≤ 8) (hE : ¬ M.prsE h k i = 0) : Calls Try.prog 6 #[(.agg #[.int .u64 (M.nu b.1), .int .u64 (M.nu b.2)]), .int .i64 h, .int .i64 k, .int .u64 i] w fun e w' => e = .returned (.bool true) ∧ Below w.heap.size w w' := by
  have hx : ¬ 8 < h := by omega
  have Xb0 := hidq (Bx2.new w b)
  have B0 := hidq (show Below w.heap.size w (w.alloc (.cells #[.int .u64 (M.nu b.1), .int .u64 (M.nu b.2)] 41)) from below_one (Below.refl _ _))
  have cb0 := Xb0.out.facts
  have HP := hidq (fun W vl (u : Ts W vl [(1, 0, 0)]) => ofT_lit14 ▸ smake_eq (M.may_stop (A := [(1, 0, 0)]) (m := M.ofT 0) hE) i0 i1 (vl := vl) W u)
  have HQ := hidq (fun W vl (u : Ts W vl []) => ofB_lit14 b ▸ smake_eq (M.may_stop (A := []) (m := M.ofB b) hE) i0 i1 (vl := vl) W u)
  have T2 := hidq trivial
  clear hE i0 i1
  go_enter Try.func6, Try.ntmps6
  go_wp2_with (first | (go_at_call 8; refine (live14_any _).mono ?_; rintro e w1 ⟨rfl, hb1⟩; have Yb1 := Xb0.out.below hb1; have cb1 := Yb1.facts; have lb1 := Yb1.lt; have Xb1 := hidq ((Yb1).alloc (.cells #[.int .i64 1, .int .i64 0, .int .i64 0] 43)); have B1 := hidq (below_one (o := (.cells #[.int .i64 1, .int .i64 0, .int .i64 0] 43)) (below_trans B0.out hb1)); have UA1 := hidq (ts_atom14 w1 w1.heap.size rfl); clear hb1 Yb1) | (go_at_call 17; clear T2; refine (HP.out _ _ UA1.out).mono ?_; rintro e w2 ⟨va2, vb2, rfl, he2, ho2, hb2⟩; obtain ⟨ao2, cap2, rfl, -⟩ := own_formq ho2; obtain ⟨ae2, ce2, rfl, -⟩ := he2.form; have Yb2 := Xb1.out.below hb2; have cb2 := Yb2.facts; have lb2 := Yb2.lt; have Xb2 := hidq (Yb2); have UA2 := hidq (UA1.out.below hb2); have B2 := hidq (below_trans B1.out hb2); clear he2 ho2; clear cb1 lb1; clear hb2 Yb2) | (go_at_call 17; refine (HQ.out _ _ (Sl.nil _ _)).mono ?_; rintro e w3 ⟨va3, vb3, rfl, he3, ho3, hb3⟩; obtain ⟨ao3, cap3, rfl, -⟩ := own_formq ho3; obtain ⟨ae3, ce3, rfl, -⟩ := he3.form; have Yb3 := Xb2.out.below hb3; have cb3 := Yb3.facts; have lb3 := Yb3.lt; have Xb3 := hidq (Yb3); have UA3 := hidq (UA2.out.below hb3); have B3 := hidq (below_trans B2.out hb3); clear he3 ho3; clear cb2 lb2; clear hb3 Yb3))
  go_ret
  exact ⟨rfl, B3.out⟩
set_option maxRecDepth 100000 in
set_option maxHeartbeats 16000000 in
theorem storeMay_yes (b : M.Blk) (h k i : Int) (w : World) (i0 : 0 ≤ i) (i1 : i ≤ 18446744073709551615) (hh : h ≤ 8) (hE : M.prsE h k i = 0) : Calls Try.prog 6 #[(.agg #[.int .u64 (M.nu b.1), .int .u64 (M.nu b.2)]), .int .i64 h, .int .i64 k, .int .u64 i] w fun e w' => e = .returned (.bool true) ∧ Below w.heap.size w w' := by
  have hx : ¬ 8 < h := by omega
  have Xb0 := hidq (Bx2.new w b)
  have B0 := hidq (show Below w.heap.size w (w.alloc (.cells #[.int .u64 (M.nu b.1), .int .u64 (M.nu b.2)] 41)) from below_one (Below.refl _ _))
  have cb0 := Xb0.out.facts
  obtain ⟨E, L, p1, p2, p3, -, p5, -, -, -, p6⟩ := M.may_made (A := [(1, 0, 0)]) (k := k) (m := M.ofT 0) i0 hE hh (M.opn_atom (by decide) (by decide)) (Nat.le_refl _)
  obtain ⟨F, L2, q1, q2, -, q4, q5, -, -, -, -⟩ := M.may_made (A := []) (k := k) (m := M.ofB b) i0 hE hh (M.opn_nilB b) (by simp)
  obtain rfl := q4 rfl
  have HDf := hidq (p6 rfl rfl (by rw [p3.at (by simp)]; rfl))
  have KL := hidq (M.mak_okL p1)
  have HP := hidq (fun W vl (u : Ts W vl [(1, 0, 0)]) => ofT_lit14 ▸ smake_eq p1 i0 i1 (vl := vl) W u)
  have HQ := hidq (fun W vl (u : Ts W vl []) => ofB_lit14 b ▸ smake_eq q1 i0 i1 (vl := vl) W u)
  have CP := hidq (fun W vl vs (u : Ts W vl L) (us : Es W vs E) => schk14_eq p5 i0 i1 (vl := vl) (vs := vs) W u us)
  have CQ := hidq (fun W vl vs (u : Ts W vl []) (us : Es W vs F) => schk14_eq q5 i0 i1 (vl := vl) (vs := vs) W u us)
  have SM := hidq (fun W => smany_any h k W)
  obtain ⟨l1, l2, -⟩ := M.prs_length i0 hE
  obtain ⟨N, hN⟩ : ∃ N, (M.prsL h k i).length = N := ⟨_, rfl⟩
  rw [l2, ← l1, hN] at SM
  have HlE := hidq (show E.length = N by rw [← hN, ← p2, List.length_map])
  have HlF := hidq (show F.length = N by rw [← hN, ← q2, List.length_map])
  have HEq := hidq (fun (j : Nat) (x y : M.En) (hx : E[j]? = some x) (hy : F[j]? = some y) => show x.1 = y.1 by
    have h1 : (E.map (fun x => x.1))[j]? = some x.1 := by rw [List.getElem?_map, hx]; rfl
    have h2 : (F.map (fun x => x.1))[j]? = some y.1 := by rw [List.getElem?_map, hy]; rfl
    rw [p2] at h1
    rw [q2, h1] at h2
    exact Option.some.inj h2)
  have T2 := hidq trivial
  have T5 := hidq trivial
  clear p1 p2 p3 p5 p6 q1 q2 q4 q5 l1 l2 hN hE i0 i1
  go_enter Try.func6, Try.ntmps6
  go_wp2_with (first | (go_at_call 8; refine (live14_any _).mono ?_; rintro e w1 ⟨rfl, hb1⟩; have Yb1 := Xb0.out.below hb1; have cb1 := Yb1.facts; have lb1 := Yb1.lt; have Xb1 := hidq ((Yb1).alloc (.cells #[.int .i64 1, .int .i64 0, .int .i64 0] 43)); have B1 := hidq (below_one (o := (.cells #[.int .i64 1, .int .i64 0, .int .i64 0] 43)) (below_trans B0.out hb1)); have UA1 := hidq (ts_atom14 w1 w1.heap.size rfl); clear hb1 Yb1) | (go_at_call 17; clear T2; refine (HP.out _ _ UA1.out).mono ?_; rintro e w2 ⟨va2, vb2, rfl, he2, ho2, hb2⟩; obtain ⟨ao2, cap2, rfl, -⟩ := own_formq ho2; have EF2 := he2; obtain ⟨ae2, ce2, e2, kA, kM, vA⟩ := he2.form; rw [HlE.out] at e2 kA; subst e2; have VA := hidq vA; have HkM := hidq kM; have HkA := hidq kA; have Yb2 := Xb1.out.below hb2; have cb2 := Yb2.facts; have lb2 := Yb2.lt; have Xb2 := hidq (Yb2); have UA2 := hidq (UA1.out.below hb2); have EP2 := hidq (he2); have LP2 := hidq (ts_ofown ho2 KL.out); have B2 := hidq (below_trans B1.out hb2); clear he2 ho2 EF2 vA kM kA; clear cb1 lb1; clear hb2 Yb2) | (go_at_call 17; refine (HQ.out _ _ (Sl.nil _ _)).mono ?_; rintro e w3 ⟨va3, vb3, rfl, he3, ho3, hb3⟩; obtain ⟨ao3, cap3, rfl, -⟩ := own_formq ho3; obtain ⟨ae3, ce3, e3, kB, -, vB⟩ := he3.form; rw [HlF.out] at e3 kB; subst e3; have VB := hidq vB; have HkB := hidq kB; have Yb3 := Xb2.out.below hb3; have cb3 := Yb3.facts; have lb3 := Yb3.lt; have Xb3 := hidq (Yb3); have UA3 := hidq (UA2.out.below hb3); have EP3 := hidq (EP2.out.below hb3); have LP3 := hidq (LP2.out.below hb3); have FP3 := hidq (he3); have B3 := hidq (below_trans B2.out hb3); clear he3 ho3 vB kB; clear cb2 lb2; clear hb3 Yb3) | (go_at_call 11; refine (SM.out _).mono ?_; rintro e w4 ⟨rfl, hb4⟩; have Yb4 := Xb3.out.below hb4; have cb4 := Yb4.facts; have lb4 := Yb4.lt; have Xb4 := hidq (Yb4); have UA4 := hidq (UA3.out.below hb4); have EP4 := hidq (EP3.out.below hb4); have LP4 := hidq (LP3.out.below hb4); have FP4 := hidq (FP3.out.below hb4); have B4 := hidq (below_trans B3.out hb4); clear cb3 lb3; clear hb4 Yb4) | (go_at_call 18; clear T5; refine (CP.out _ _ _ LP4.out EP4.out).mono ?_; rintro e w5 ⟨rfl, hb5⟩; have Yb5 := Xb4.out.below hb5; have cb5 := Yb5.facts; have lb5 := Yb5.lt; have Xb5 := hidq (Yb5); have UA5 := hidq (UA4.out.below hb5); have EP5 := hidq (EP4.out.below hb5); have LP5 := hidq (LP4.out.below hb5); have FP5 := hidq (FP4.out.below hb5); have B5 := hidq (below_trans B4.out hb5); clear cb4 lb4; clear hb5 Yb5) | (go_at_call 18; refine (CQ.out _ _ _ (Sl.nil _ _) FP5.out).mono ?_; rintro e w6 ⟨rfl, hb6⟩; have Yb6 := Xb5.out.below hb6; have cb6 := Yb6.facts; have lb6 := Yb6.lt; have Xb6 := hidq (Yb6); have UA6 := hidq (UA5.out.below hb6); have EP6 := hidq (EP5.out.below hb6); have LP6 := hidq (LP5.out.below hb6); have FP6 := hidq (FP5.out.below hb6); have B6 := hidq (below_trans B5.out hb6); clear cb5 lb5; clear hb6 Yb6))
  obtain ⟨wz, hwz⟩ : ∃ wz, wz = w6 := ⟨_, rfl⟩
  subst hwz
  have EZ := EP6
  have FZ := FP6
  have BW := B6
  clear EP6 FP6 B6 Xb6 LP6 UA6
  go_loopw [109] (fun a wr => ∃ (j : Nat), j ≤ N ∧ a = .int .i64 j ∧ Below wz.heap.size wz wr) (fun a _ => N - (intOf a).toNat)
  case atStart => exact ⟨0, by omega, rfl, Below.refl _ _⟩
  case round =>
    obtain ⟨j, hj, rfl, hb⟩ := hrel
    obtain ⟨wy, hwy⟩ : ∃ wy, wy = wr := ⟨_, rfl⟩
    subst hwy
    have BZ := hidq hb
    have hN8 := Nat.le_trans HkA.out HkM.out
    unfold maxLen at hN8
    by_cases hjn : j < N
    · have hji : (j : Int) < N := by omega
      have kA := HkA.out
      have kB := HkB.out
      obtain ⟨bE, oE, rfl⟩ := VA.out (by omega)
      obtain ⟨bF, oF, rfl⟩ := VB.out (by omega)
      obtain ⟨x, hx⟩ : ∃ x, E[j]? = some x := ⟨_, List.getElem?_eq_getElem (by rw [HlE.out]; exact hjn)⟩
      obtain ⟨y', hy'⟩ : ∃ y', F[j]? = some y' := ⟨_, List.getElem?_eq_getElem (by rw [HlF.out]; exact hjn)⟩
      have hxy := HEq.out j x y' hx hy'
      have hD := wy.drew
      obtain ⟨x0, x1, -⟩ := Es.cell (EZ.out.below hb) hx
      obtain ⟨y0, y1, -⟩ := Es.cell (FZ.out.below hb) hy'
      have HXj := hidq hx
      obtain ⟨⟨sI, sJ⟩, sv⟩ := x
      obtain ⟨⟨tI, tJ⟩, tv⟩ := y'
      dsimp only at x0 x1 y0 y1 hxy
      simp only [Prod.mk.injEq] at hxy
      obtain ⟨rfl, rfl⟩ := hxy
      have heq := fun W => eqSub sI sJ sI sJ W
      have hcap : ¬ ce2 = 0 := by omega
      have hjc : (j : Int) ≤ ce2 := by omega
      have hjc2 : j ≤ ce2 := by omega
      clear hx hy' hb hD
      go_upto_region 15 with (fail)
      go_region
      all_goals
        go_wp2_with (fail)
        go_loopw [127] (fun a wr => ∃ (p : Nat), p ≤ j ∧ a = .int .i64 p ∧ Below wy.heap.size wy wr) (fun a _ => j - (intOf a).toNat)
        case atStart => exact ⟨0, by omega, rfl, (Below.refl _ _).drew⟩
        case round =>
          obtain ⟨p, hp, rfl, hb⟩ := hrel
          obtain ⟨wx, hwx⟩ : ∃ wx, wx = wr := ⟨_, rfl⟩
          subst hwx
          have BX := hidq hb
          by_cases hpn : p < j
          · have hpi : (p : Int) < j := by omega
            obtain ⟨x, hx⟩ : ∃ x, E[p]? = some x := ⟨_, List.getElem?_eq_getElem (by rw [HlE.out]; omega)⟩
            have hne := HDf.out p j x _ hpn hx HXj.out
            have EX := hidq ((EZ.out.below BZ.out).below hb)
            obtain ⟨x0, x1, x2, x3, x4, x5, x6, x7, x8, x9, xa⟩ := Es.cell EX.out hx
            obtain ⟨⟨y, d⟩, v⟩ := x
            dsimp only at x0 x1 x2 x3 x4 x5 x6 x7 x8 x9 xa hne
            have heq2 := val_ne14 hne
            have XB := hidq (BxE.new wx ((y, d), v))
            clear hx
            go_upto_region 20 with (fail)
            obtain ⟨G', HG, HFc, HOc, HW, ne⟩ := clq_of wy (wx.alloc (.cells #[.int .u64 y, .int .u64 d, .bool v.1, .bool v.2.1, .int .u64 (M.nu v.2.2.1.1), .int .u64 (M.nu v.2.2.1.2), .int .u64 (M.nu v.2.2.2.1.1.1), .int .u64 (M.nu v.2.2.2.1.1.2), .int .u64 (M.nu v.2.2.2.1.2.1), .int .u64 (M.nu v.2.2.2.1.2.2), .int .i64 v.2.2.2.2] 54)) (fun X => BxE X wx.heap.size ((y, d), v) ∧ Es X (.slice (some ⟨bE, oE, none⟩) N ce2) E) (fun _ _ h hb => ⟨h.1.below hb, h.2.below hb⟩) ⟨XB.out, EX.out.alloc _⟩ (below_one (o := (.cells #[.int .u64 y, .int .u64 d, .bool v.1, .bool v.2.1, .int .u64 (M.nu v.2.2.1.1), .int .u64 (M.nu v.2.2.1.2), .int .u64 (M.nu v.2.2.2.1.1.1), .int .u64 (M.nu v.2.2.2.1.1.2), .int .u64 (M.nu v.2.2.2.1.2.1), .int .u64 (M.nu v.2.2.2.1.2.2), .int .i64 v.2.2.2.2] 54)) hb)
            have g0c := fun c : Clq G' => (HFc.out c).1.cells
            have g1c := fun c : Clq G' => Es.cell (HFc.out c).2 HXj.out
            dsimp only at g0c g1c
            refine regionq (by kernel_rfl) (by kernel_rfl) HW.out ?_
            repeat (go_big_quiet_step (fail))
            refine wpQuiet_nil ?_
            rintro _ ⟨s9, rfl⟩
            have B9 := hidq (HOc.out s9)
            generalize s9.W = W9 at *
            clear g0c g1c
            go_wp2
            go_roundw
            case rel => exact ⟨p + 1, by omega, by go_num, B9.out⟩
            case measure => simp [intOf]; omega
          · obtain rfl : p = j := by omega
            have hpi : ¬ (p : Int) < p := by omega
            clear hb
            go_wp2
            go_roundw
            case rel => exact ⟨p + 1, by omega, by go_num, below_trans BZ.out BX.out⟩
            case measure => simp [intOf]; omega
    · obtain rfl : j = N := by omega
      have hji : ¬ (j : Int) < j := by omega
      clear hb
      go_wp2
      go_ret
      exact ⟨rfl, below_trans BW.out BZ.out⟩
set_option maxRecDepth 100000 in
theorem storeMay_walk (b : M.Blk) (h k i : Int) (w : World) (_ : -9223372036854775808 ≤ h) (_ : h ≤ 9223372036854775807) (_ : -9223372036854775808 ≤ k) (_ : k ≤ 9223372036854775807) (i0 : 0 ≤ i) (i1 : i ≤ 18446744073709551615) : Calls Try.prog 6 #[(.agg #[.int .u64 (M.nu b.1), .int .u64 (M.nu b.2)]), .int .i64 h, .int .i64 k, .int .u64 i] w fun e w' => e = .returned (.bool true) ∧ Below w.heap.size w w' := by
  by_cases hh : h ≤ 8
  · by_cases hE : M.prsE h k i = 0
    · exact storeMay_yes b h k i w i0 i1 hh hE
    · exact storeMay_no b h k i w i0 i1 hh hE
  · exact storeMay_far b h k i w i0 i1 (by omega)
end Go.Proofs.Ythmiekinjfaflaa
