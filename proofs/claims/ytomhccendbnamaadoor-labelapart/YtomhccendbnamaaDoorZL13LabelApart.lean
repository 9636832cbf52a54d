/-
  The law LabelApart returns true at every input: of an atom no two nodes have one value, no two subsets one label, and no two of a scheme one key. Conditions: the slices hold terms, the numbers fit their kinds, the two tables read as their text lays them.
-/
import Derived.Test.YtomhccendbnamaaDoorZLbl
import Derived.Test.YtomhccendbnamaaDoorZTR
namespace Go.Proofs.YtomhccendbnamaaDoor
open Go.RowKit
set_option maxRecDepth 100000 in
theorem tboxq (W : World) (i : Int) (g : Nat) (hg : g = W.heap.size) : Bx9 (W.alloc (.cells #[.bool true, .bool false, .int .u64 0, .int .u64 0, .int .u64 0, .int .u64 0, .int .u64 0, .int .u64 0, .int .i64 i] 29)) g (M.ofT i) := by subst hg; exact Bx9.new W (M.ofT i)
theorem Bx9.cellsq {W : World} {B : Nat} {i : Int} (h : Bx9 W B (M.ofT i)) : W.cell? ⟨B, 0, none⟩ = some (.bool true) ∧ W.cell? ⟨B, 1, none⟩ = some (.bool false) ∧ W.cell? ⟨B, 2, none⟩ = some (.int .u64 0) ∧ W.cell? ⟨B, 3, none⟩ = some (.int .u64 0) ∧ W.cell? ⟨B, 4, none⟩ = some (.int .u64 0) ∧ W.cell? ⟨B, 5, none⟩ = some (.int .u64 0) ∧ W.cell? ⟨B, 6, none⟩ = some (.int .u64 0) ∧ W.cell? ⟨B, 7, none⟩ = some (.int .u64 0) ∧ W.cell? ⟨B, 8, none⟩ = some (.int .i64 i) := h.cells
theorem ofT_litq (i : Int) : ((.agg #[.bool (M.ofT i).1, .bool (M.ofT i).2.1, .int .u64 (M.nu (M.ofT i).2.2.1.1), .int .u64 (M.nu (M.ofT i).2.2.1.2), .int .u64 (M.nu (M.ofT i).2.2.2.1.1.1), .int .u64 (M.nu (M.ofT i).2.2.2.1.1.2), .int .u64 (M.nu (M.ofT i).2.2.2.1.2.1), .int .u64 (M.nu (M.ofT i).2.2.2.1.2.2), .int .i64 (M.ofT i).2.2.2.2]) : Value) = .agg #[.bool true, .bool false, .int .u64 0, .int .u64 0, .int .u64 0, .int .u64 0, .int .u64 0, .int .u64 0, .int .i64 i] := rfl
set_option maxRecDepth 100000 in
theorem Bi.newa (w : World) (aI aJ bI bJ : Int) : Bi ((w.alloc (.cells #[.int .u64 aI, .int .u64 aJ] 41)).alloc (.cells #[.int .u64 bI, .int .u64 bJ] 41)) (w.heap.size + 1) 41 bI bJ := Bi.new1 w (.cells #[.int .u64 aI, .int .u64 aJ] 41) 41 bI bJ
set_option maxRecDepth 100000 in
theorem eqTq (i j : Int) (w : World) {q : Bool} (h : (i == j) = q) : (Op.equalIn 10000 29 (.agg #[.bool true, .bool false, .int .u64 0, .int .u64 0, .int .u64 0, .int .u64 0, .int .u64 0, .int .u64 0, .int .i64 i]) (.agg #[.bool true, .bool false, .int .u64 0, .int .u64 0, .int .u64 0, .int .u64 0, .int .u64 0, .int .u64 0, .int .i64 j])).run Tryd.prog w = .ok q w := by
  rw [eqVa]; simp [h]
set_option maxRecDepth 100000 in
theorem eqSq (a b x y : Int) (w : World) {q : Bool} (h : decide (((a, b) : Int × Int) = (x, y)) = q) : (Op.equalIn 10000 41 (.agg #[.int .u64 a, .int .u64 b]) (.agg #[.int .u64 x, .int .u64 y])).run Tryd.prog w = .ok q w := by
  rw [eqSub, h]
set_option maxRecDepth 100000 in
set_option maxHeartbeats 4000000 in
theorem labelApart_out {h k n : Int} {aI aJ bI bJ : Int} (hn : n < 0 ∨ ¬ n < 0 ∧ 1048576 < n) (fa1 : 0 ≤ aI ∧ aI ≤ 18446744073709551615) (fa2 : 0 ≤ aJ ∧ aJ ≤ 18446744073709551615) (fb1 : 0 ≤ bI ∧ bI ≤ 18446744073709551615) (fb2 : 0 ≤ bJ ∧ bJ ≤ 18446744073709551615) (w : World) (hT : Tab w) :
    Calls Tryd.prog 4 #[.int .i64 h, .int .i64 k, .int .i64 n, .agg #[.int .u64 aI, .int .u64 aJ], .agg #[.int .u64 bI, .int .u64 bJ]] w fun e w' => e = .returned (.bool true) ∧ Below w.heap.size w w' := by
  have HUSE := And.intro fa1 (And.intro fa2 (And.intro fb1 fb2))
  clear HUSE
  have Xa0 := hidq ((Bi.new w 41 aI aJ).alloc (.cells #[.int .u64 bI, .int .u64 bJ] 41))
  have Xb0 := hidq (Bi.newa w aI aJ bI bJ)
  have B0 := hidq (show Below w.heap.size w ((w.alloc (.cells #[.int .u64 aI, .int .u64 aJ] 41)).alloc (.cells #[.int .u64 bI, .int .u64 bJ] 41)) from below_one (below_one (Below.refl _ _)))
  have ca0 := Xa0.out.facts
  have cb0 := Xb0.out.facts
  have HT := hidq (hT.below B0.out)
  clear hT
  rcases hn with hn | ⟨hn, hm⟩
  · clear fa1 fa2 fb1 fb2
    go_enter Tryd.func4, Tryd.ntmps4
    go_wp2_with (first | (go_at_call 7; refine (live13_any _ HT.out).mono ?_; rintro e w1 ⟨rfl, hb1⟩; have Ya1 := Xa0.out.below hb1; have ca1 := Ya1.facts; have la1 := Ya1.lt; have Xa1 := hidq (Ya1); have Yb1 := Xb0.out.below hb1; have cb1 := Yb1.facts; have lb1 := Yb1.lt; have Xb1 := hidq (Yb1); have B1 := hidq (below_trans B0.out hb1); clear hb1 Ya1 Yb1))
    go_ret
    exact ⟨rfl, B1.out⟩
  · clear fa1 fa2 fb1 fb2
    go_enter Tryd.func4, Tryd.ntmps4
    go_wp2_with (first | (go_at_call 7; refine (live13_any _ HT.out).mono ?_; rintro e w1 ⟨rfl, hb1⟩; have Ya1 := Xa0.out.below hb1; have ca1 := Ya1.facts; have la1 := Ya1.lt; have Xa1 := hidq (Ya1); have Yb1 := Xb0.out.below hb1; have cb1 := Yb1.facts; have lb1 := Yb1.lt; have Xb1 := hidq (Yb1); have B1 := hidq (below_trans B0.out hb1); clear hb1 Ya1 Yb1))
    go_ret
    exact ⟨rfl, B1.out⟩
set_option maxRecDepth 100000 in
set_option maxHeartbeats 4000000 in
theorem labelApart_1 {h k n : Int} {aI aJ bI bJ : Int} {L1 : List M.Tm} {e : Int} (n0 : 0 ≤ n) (n1 : n ≤ 1048576) (h1 : M.nodeA [(1, n, 0)] h (M.ofT 0) aI = (M.zV, L1, e)) (he : ¬ e = 0) (fa1 : 0 ≤ aI ∧ aI ≤ 18446744073709551615) (fa2 : 0 ≤ aJ ∧ aJ ≤ 18446744073709551615) (fb1 : 0 ≤ bI ∧ bI ≤ 18446744073709551615) (fb2 : 0 ≤ bJ ∧ bJ ≤ 18446744073709551615) (w : World) (hT : Tab w) :
    Calls Tryd.prog 4 #[.int .i64 h, .int .i64 k, .int .i64 n, .agg #[.int .u64 aI, .int .u64 aJ], .agg #[.int .u64 bI, .int .u64 bJ]] w fun e w' => e = .returned (.bool true) ∧ Below w.heap.size w w' := by
  have HUSE := And.intro fa1 (And.intro fa2 (And.intro fb1 fb2))
  clear HUSE
  have Xa0 := hidq ((Bi.new w 41 aI aJ).alloc (.cells #[.int .u64 bI, .int .u64 bJ] 41))
  have Xb0 := hidq (Bi.newa w aI aJ bI bJ)
  have B0 := hidq (show Below w.heap.size w ((w.alloc (.cells #[.int .u64 aI, .int .u64 aJ] 41)).alloc (.cells #[.int .u64 bI, .int .u64 bJ] 41)) from below_one (below_one (Below.refl _ _)))
  have ca0 := Xa0.out.facts
  have cb0 := Xb0.out.facts
  have HT := hidq (hT.below B0.out)
  clear hT
  obtain ⟨A, hA⟩ : ∃ A : List M.Tm, [(1, n, 0)] = A := ⟨_, rfl⟩
  have HA := hidq (fun W => hA ▸ Ts.atom W n n0 n1 W.heap.size rfl)
  rw [hA] at h1
  have m0 : ¬ n < 0 := by omega
  have m1 : ¬ 1048576 < n := by omega
  have H1 := hidq (fun W vl (u : Ts W vl A) => zV_eq ▸ lnode_eq h1 fa1.1 fa1.2 (vl := vl) W u)
  have heb : (e == 0) = false := beq_eq_false_iff_ne.2 he
  have hec : (e != 0) = true := by simpa using he
  have T2 := hidq trivial
  clear fa1 fa2 fb1 fb2 hA n0 n1 h1 
  go_enter Tryd.func4, Tryd.ntmps4
  go_wp2_with (first | (go_at_call 7; refine (live13_any _ HT.out).mono ?_; rintro e w1 ⟨rfl, hb1⟩; have Ya1 := Xa0.out.below hb1; have ca1 := Ya1.facts; have la1 := Ya1.lt; have Xa1 := hidq (((Ya1).alloc (.cells #[.int .i64 1, .int .i64 n, .int .i64 0] 43)).alloc (.cells #[.bool true, .bool false, .int .u64 0, .int .u64 0, .int .u64 0, .int .u64 0, .int .u64 0, .int .u64 0, .int .i64 0] 29)); have Yb1 := Xb0.out.below hb1; have cb1 := Yb1.facts; have lb1 := Yb1.lt; have Xb1 := hidq (((Yb1).alloc (.cells #[.int .i64 1, .int .i64 n, .int .i64 0] 43)).alloc (.cells #[.bool true, .bool false, .int .u64 0, .int .u64 0, .int .u64 0, .int .u64 0, .int .u64 0, .int .u64 0, .int .i64 0] 29)); have Xm1 := hidq (tboxq (w1.alloc (.cells #[.int .i64 1, .int .i64 n, .int .i64 0] 43)) 0 (w1.heap.size + 1) (by simp)); have UA1 := hidq ((HA.out w1).alloc (.cells #[.bool true, .bool false, .int .u64 0, .int .u64 0, .int .u64 0, .int .u64 0, .int .u64 0, .int .u64 0, .int .i64 0] 29)); have B1 := hidq (below_one (o := (.cells #[.bool true, .bool false, .int .u64 0, .int .u64 0, .int .u64 0, .int .u64 0, .int .u64 0, .int .u64 0, .int .i64 0] 29)) (below_one (o := (.cells #[.int .i64 1, .int .i64 n, .int .i64 0] 43)) (below_trans B0.out hb1))); clear hb1 Ya1 Yb1) | (go_at_call 10; clear T2; refine (H1.out _ _ UA1.out).mono ?_; rintro e w2 ⟨v2, rfl, ho2, hb2⟩; obtain ⟨ao2, cap2, rfl, -⟩ := own_formq ho2; have Ya2 := Xa1.out.below hb2; have ca2 := Ya2.facts; have la2 := Ya2.lt; have Xa2 := hidq ((Ya2).alloc (.cells #[.bool false, .bool false, .int .u64 0, .int .u64 0, .int .u64 0, .int .u64 0, .int .u64 0, .int .u64 0, .int .i64 0] 29)); have Yb2 := Xb1.out.below hb2; have cb2 := Yb2.facts; have lb2 := Yb2.lt; have Xb2 := hidq ((Yb2).alloc (.cells #[.bool false, .bool false, .int .u64 0, .int .u64 0, .int .u64 0, .int .u64 0, .int .u64 0, .int .u64 0, .int .i64 0] 29)); have Ym2 := Xm1.out.below hb2; have cm2 := Ym2.cellsq; have lm2 := Ym2.lt; have Xm2 := hidq ((Ym2).alloc (.cells #[.bool false, .bool false, .int .u64 0, .int .u64 0, .int .u64 0, .int .u64 0, .int .u64 0, .int .u64 0, .int .i64 0] 29)); have UA2 := hidq ((UA1.out.below hb2).alloc (.cells #[.bool false, .bool false, .int .u64 0, .int .u64 0, .int .u64 0, .int .u64 0, .int .u64 0, .int .u64 0, .int .i64 0] 29)); have B2 := hidq (below_one (o := (.cells #[.bool false, .bool false, .int .u64 0, .int .u64 0, .int .u64 0, .int .u64 0, .int .u64 0, .int .u64 0, .int .i64 0] 29)) (below_trans B1.out hb2)); clear ho2; clear ca1 la1 cb1 lb1; clear hb2 Ya2 Yb2 Ym2))
  go_ret
  exact ⟨rfl, B2.out⟩
set_option maxRecDepth 100000 in
set_option maxHeartbeats 4000000 in
theorem labelApart_2 {h k n : Int} {aI aJ bI bJ : Int} {i1 : Int} {L1 L2 : List M.Tm} {e : Int} (n0 : 0 ≤ n) (n1 : n ≤ 1048576) (h1 : M.nodeA [(1, n, 0)] h (M.ofT 0) aI = (M.ofT i1, L1, 0)) (o1 : M.Ok L1) (h2 : M.nodeA L1 h (M.ofT 0) bI = (M.zV, L2, e)) (he : ¬ e = 0) (fa1 : 0 ≤ aI ∧ aI ≤ 18446744073709551615) (fa2 : 0 ≤ aJ ∧ aJ ≤ 18446744073709551615) (fb1 : 0 ≤ bI ∧ bI ≤ 18446744073709551615) (fb2 : 0 ≤ bJ ∧ bJ ≤ 18446744073709551615) (w : World) (hT : Tab w) :
    Calls Tryd.prog 4 #[.int .i64 h, .int .i64 k, .int .i64 n, .agg #[.int .u64 aI, .int .u64 aJ], .agg #[.int .u64 bI, .int .u64 bJ]] w fun e w' => e = .returned (.bool true) ∧ Below w.heap.size w w' := by
  have HUSE := And.intro fa1 (And.intro fa2 (And.intro fb1 fb2))
  clear HUSE
  have Xa0 := hidq ((Bi.new w 41 aI aJ).alloc (.cells #[.int .u64 bI, .int .u64 bJ] 41))
  have Xb0 := hidq (Bi.newa w aI aJ bI bJ)
  have B0 := hidq (show Below w.heap.size w ((w.alloc (.cells #[.int .u64 aI, .int .u64 aJ] 41)).alloc (.cells #[.int .u64 bI, .int .u64 bJ] 41)) from below_one (below_one (Below.refl _ _)))
  have ca0 := Xa0.out.facts
  have cb0 := Xb0.out.facts
  have HT := hidq (hT.below B0.out)
  clear hT
  obtain ⟨A, hA⟩ : ∃ A : List M.Tm, [(1, n, 0)] = A := ⟨_, rfl⟩
  have HA := hidq (fun W => hA ▸ Ts.atom W n n0 n1 W.heap.size rfl)
  rw [hA] at h1
  have m0 : ¬ n < 0 := by omega
  have m1 : ¬ 1048576 < n := by omega
  have H1 := hidq (fun W vl (u : Ts W vl A) => ofT_litq i1 ▸ lnode_eq h1 fa1.1 fa1.2 (vl := vl) W u)
  have K1 := hidq o1
  have H2 := hidq (fun W vl (u : Ts W vl L1) => zV_eq ▸ lnode_eq h2 fb1.1 fb1.2 (vl := vl) W u)
  have heb : (e == 0) = false := beq_eq_false_iff_ne.2 he
  have hec : (e != 0) = true := by simpa using he
  have T2 := hidq trivial
  have T3 := hidq trivial
  clear fa1 fa2 fb1 fb2 hA n0 n1 h1 h2 o1
  go_enter Tryd.func4, Tryd.ntmps4
  go_wp2_with (first | (go_at_call 7; refine (live13_any _ HT.out).mono ?_; rintro e w1 ⟨rfl, hb1⟩; have Ya1 := Xa0.out.below hb1; have ca1 := Ya1.facts; have la1 := Ya1.lt; have Xa1 := hidq (((Ya1).alloc (.cells #[.int .i64 1, .int .i64 n, .int .i64 0] 43)).alloc (.cells #[.bool true, .bool false, .int .u64 0, .int .u64 0, .int .u64 0, .int .u64 0, .int .u64 0, .int .u64 0, .int .i64 0] 29)); have Yb1 := Xb0.out.below hb1; have cb1 := Yb1.facts; have lb1 := Yb1.lt; have Xb1 := hidq (((Yb1).alloc (.cells #[.int .i64 1, .int .i64 n, .int .i64 0] 43)).alloc (.cells #[.bool true, .bool false, .int .u64 0, .int .u64 0, .int .u64 0, .int .u64 0, .int .u64 0, .int .u64 0, .int .i64 0] 29)); have Xm1 := hidq (tboxq (w1.alloc (.cells #[.int .i64 1, .int .i64 n, .int .i64 0] 43)) 0 (w1.heap.size + 1) (by simp)); have UA1 := hidq ((HA.out w1).alloc (.cells #[.bool true, .bool false, .int .u64 0, .int .u64 0, .int .u64 0, .int .u64 0, .int .u64 0, .int .u64 0, .int .i64 0] 29)); have B1 := hidq (below_one (o := (.cells #[.bool true, .bool false, .int .u64 0, .int .u64 0, .int .u64 0, .int .u64 0, .int .u64 0, .int .u64 0, .int .i64 0] 29)) (below_one (o := (.cells #[.int .i64 1, .int .i64 n, .int .i64 0] 43)) (below_trans B0.out hb1))); clear hb1 Ya1 Yb1) | (go_at_call 10; clear T2; refine (H1.out _ _ UA1.out).mono ?_; rintro e w2 ⟨v2, rfl, ho2, hb2⟩; obtain ⟨ao2, cap2, rfl, -⟩ := own_formq ho2; have Ya2 := Xa1.out.below hb2; have ca2 := Ya2.facts; have la2 := Ya2.lt; have Xa2 := hidq ((Ya2).alloc (.cells #[.bool true, .bool false, .int .u64 0, .int .u64 0, .int .u64 0, .int .u64 0, .int .u64 0, .int .u64 0, .int .i64 i1] 29)); have Yb2 := Xb1.out.below hb2; have cb2 := Yb2.facts; have lb2 := Yb2.lt; have Xb2 := hidq ((Yb2).alloc (.cells #[.bool true, .bool false, .int .u64 0, .int .u64 0, .int .u64 0, .int .u64 0, .int .u64 0, .int .u64 0, .int .i64 i1] 29)); have Ym2 := Xm1.out.below hb2; have cm2 := Ym2.cellsq; have lm2 := Ym2.lt; have Xm2 := hidq ((Ym2).alloc (.cells #[.bool true, .bool false, .int .u64 0, .int .u64 0, .int .u64 0, .int .u64 0, .int .u64 0, .int .u64 0, .int .i64 i1] 29)); have UA2 := hidq ((UA1.out.below hb2).alloc (.cells #[.bool true, .bool false, .int .u64 0, .int .u64 0, .int .u64 0, .int .u64 0, .int .u64 0, .int .u64 0, .int .i64 i1] 29)); have V12 := hidq ((ts_ofown ho2 K1.out).alloc (.cells #[.bool true, .bool false, .int .u64 0, .int .u64 0, .int .u64 0, .int .u64 0, .int .u64 0, .int .u64 0, .int .i64 i1] 29)); have Xx12 := hidq (Bx9.new w2 (M.ofT i1)); have B2 := hidq (below_one (o := (.cells #[.bool true, .bool false, .int .u64 0, .int .u64 0, .int .u64 0, .int .u64 0, .int .u64 0, .int .u64 0, .int .i64 i1] 29)) (below_trans B1.out hb2)); clear ho2; clear ca1 la1 cb1 lb1; clear hb2 Ya2 Yb2 Ym2) | (go_at_call 10; clear T3; refine (H2.out _ _ V12.out).mono ?_; rintro e w3 ⟨v3, rfl, ho3, hb3⟩; obtain ⟨ao3, cap3, rfl, -⟩ := own_formq ho3; have Ya3 := Xa2.out.below hb3; have ca3 := Ya3.facts; have la3 := Ya3.lt; have Xa3 := hidq ((Ya3).alloc (.cells #[.bool false, .bool false, .int .u64 0, .int .u64 0, .int .u64 0, .int .u64 0, .int .u64 0, .int .u64 0, .int .i64 0] 29)); have Yb3 := Xb2.out.below hb3; have cb3 := Yb3.facts; have lb3 := Yb3.lt; have Xb3 := hidq ((Yb3).alloc (.cells #[.bool false, .bool false, .int .u64 0, .int .u64 0, .int .u64 0, .int .u64 0, .int .u64 0, .int .u64 0, .int .i64 0] 29)); have Ym3 := Xm2.out.below hb3; have cm3 := Ym3.cellsq; have lm3 := Ym3.lt; have Xm3 := hidq ((Ym3).alloc (.cells #[.bool false, .bool false, .int .u64 0, .int .u64 0, .int .u64 0, .int .u64 0, .int .u64 0, .int .u64 0, .int .i64 0] 29)); have Yx13 := Xx12.out.below hb3; have cx13 := Yx13.cellsq; have lx13 := Yx13.lt; have Xx13 := hidq ((Yx13).alloc (.cells #[.bool false, .bool false, .int .u64 0, .int .u64 0, .int .u64 0, .int .u64 0, .int .u64 0, .int .u64 0, .int .i64 0] 29)); have V13 := hidq ((V12.out.below hb3).alloc (.cells #[.bool false, .bool false, .int .u64 0, .int .u64 0, .int .u64 0, .int .u64 0, .int .u64 0, .int .u64 0, .int .i64 0] 29)); have B3 := hidq (below_one (o := (.cells #[.bool false, .bool false, .int .u64 0, .int .u64 0, .int .u64 0, .int .u64 0, .int .u64 0, .int .u64 0, .int .i64 0] 29)) (below_trans B2.out hb3)); clear ho3; clear ca2 la2 cb2 lb2 cm2 lm2; clear hb3 Ya3 Yb3 Ym3 Yx13))
  go_ret
  exact ⟨rfl, B3.out⟩
set_option maxRecDepth 100000 in
set_option maxHeartbeats 4000000 in
theorem labelApart_3 {h k n : Int} {aI aJ bI bJ : Int} {i1 i2 : Int} {L1 L2 L3 : List M.Tm} {e : Int} {q1 : Bool} (n0 : 0 ≤ n) (n1 : n ≤ 1048576) (h1 : M.nodeA [(1, n, 0)] h (M.ofT 0) aI = (M.ofT i1, L1, 0)) (o1 : M.Ok L1) (h2 : M.nodeA L1 h (M.ofT 0) bI = (M.ofT i2, L2, 0)) (o2 : M.Ok L2) (h3 : M.labA L2 h (M.ofT 0) aI aJ = (M.zV, L3, e)) (he : ¬ e = 0) (q1a : (i1 == i2) = q1) (q1b : (aI == bI) = q1) (fa1 : 0 ≤ aI ∧ aI ≤ 18446744073709551615) (fa2 : 0 ≤ aJ ∧ aJ ≤ 18446744073709551615) (fb1 : 0 ≤ bI ∧ bI ≤ 18446744073709551615) (fb2 : 0 ≤ bJ ∧ bJ ≤ 18446744073709551615) (w : World) (hT : Tab w) :
    Calls Tryd.prog 4 #[.int .i64 h, .int .i64 k, .int .i64 n, .agg #[.int .u64 aI, .int .u64 aJ], .agg #[.int .u64 bI, .int .u64 bJ]] w fun e w' => e = .returned (.bool true) ∧ Below w.heap.size w w' := by
  have HUSE := And.intro fa1 (And.intro fa2 (And.intro fb1 fb2))
  clear HUSE
  have Xa0 := hidq ((Bi.new w 41 aI aJ).alloc (.cells #[.int .u64 bI, .int .u64 bJ] 41))
  have Xb0 := hidq (Bi.newa w aI aJ bI bJ)
  have B0 := hidq (show Below w.heap.size w ((w.alloc (.cells #[.int .u64 aI, .int .u64 aJ] 41)).alloc (.cells #[.int .u64 bI, .int .u64 bJ] 41)) from below_one (below_one (Below.refl _ _)))
  have ca0 := Xa0.out.facts
  have cb0 := Xb0.out.facts
  have HT := hidq (hT.below B0.out)
  clear hT
  obtain ⟨A, hA⟩ : ∃ A : List M.Tm, [(1, n, 0)] = A := ⟨_, rfl⟩
  have HA := hidq (fun W => hA ▸ Ts.atom W n n0 n1 W.heap.size rfl)
  rw [hA] at h1
  have m0 : ¬ n < 0 := by omega
  have m1 : ¬ 1048576 < n := by omega
  have H1 := hidq (fun W vl (u : Ts W vl A) => ofT_litq i1 ▸ lnode_eq h1 fa1.1 fa1.2 (vl := vl) W u)
  have K1 := hidq o1
  have H2 := hidq (fun W vl (u : Ts W vl L1) => ofT_litq i2 ▸ lnode_eq h2 fb1.1 fb1.2 (vl := vl) W u)
  have K2 := hidq o2
  have H3 := hidq (fun W vl (u : Ts W vl L2) => zV_eq ▸ llab_eq h3 fa1.1 fa1.2 fa2.1 fa2.2 (vl := vl) W u)
  have heb : (e == 0) = false := beq_eq_false_iff_ne.2 he
  have hec : (e != 0) = true := by simpa using he
  have E1 := fun w => eqTq i1 i2 w q1a
  have T2 := hidq trivial
  have T3 := hidq trivial
  have T5 := hidq trivial
  clear fa1 fa2 fb1 fb2 hA n0 n1 h1 h2 h3 o1 o2
  go_enter Tryd.func4, Tryd.ntmps4
  go_upto_region 12 with (first | (go_at_call 7; refine (live13_any _ HT.out).mono ?_; rintro e w1 ⟨rfl, hb1⟩; have Ya1 := Xa0.out.below hb1; have ca1 := Ya1.facts; have la1 := Ya1.lt; have Xa1 := hidq (((Ya1).alloc (.cells #[.int .i64 1, .int .i64 n, .int .i64 0] 43)).alloc (.cells #[.bool true, .bool false, .int .u64 0, .int .u64 0, .int .u64 0, .int .u64 0, .int .u64 0, .int .u64 0, .int .i64 0] 29)); have Yb1 := Xb0.out.below hb1; have cb1 := Yb1.facts; have lb1 := Yb1.lt; have Xb1 := hidq (((Yb1).alloc (.cells #[.int .i64 1, .int .i64 n, .int .i64 0] 43)).alloc (.cells #[.bool true, .bool false, .int .u64 0, .int .u64 0, .int .u64 0, .int .u64 0, .int .u64 0, .int .u64 0, .int .i64 0] 29)); have Xm1 := hidq (tboxq (w1.alloc (.cells #[.int .i64 1, .int .i64 n, .int .i64 0] 43)) 0 (w1.heap.size + 1) (by simp)); have UA1 := hidq ((HA.out w1).alloc (.cells #[.bool true, .bool false, .int .u64 0, .int .u64 0, .int .u64 0, .int .u64 0, .int .u64 0, .int .u64 0, .int .i64 0] 29)); have B1 := hidq (below_one (o := (.cells #[.bool true, .bool false, .int .u64 0, .int .u64 0, .int .u64 0, .int .u64 0, .int .u64 0, .int .u64 0, .int .i64 0] 29)) (below_one (o := (.cells #[.int .i64 1, .int .i64 n, .int .i64 0] 43)) (below_trans B0.out hb1))); clear hb1 Ya1 Yb1) | (go_at_call 10; clear T2; refine (H1.out _ _ UA1.out).mono ?_; rintro e w2 ⟨v2, rfl, ho2, hb2⟩; obtain ⟨ao2, cap2, rfl, -⟩ := own_formq ho2; have Ya2 := Xa1.out.below hb2; have ca2 := Ya2.facts; have la2 := Ya2.lt; have Xa2 := hidq ((Ya2).alloc (.cells #[.bool true, .bool false, .int .u64 0, .int .u64 0, .int .u64 0, .int .u64 0, .int .u64 0, .int .u64 0, .int .i64 i1] 29)); have Yb2 := Xb1.out.below hb2; have cb2 := Yb2.facts; have lb2 := Yb2.lt; have Xb2 := hidq ((Yb2).alloc (.cells #[.bool true, .bool false, .int .u64 0, .int .u64 0, .int .u64 0, .int .u64 0, .int .u64 0, .int .u64 0, .int .i64 i1] 29)); have Ym2 := Xm1.out.below hb2; have cm2 := Ym2.cellsq; have lm2 := Ym2.lt; have Xm2 := hidq ((Ym2).alloc (.cells #[.bool true, .bool false, .int .u64 0, .int .u64 0, .int .u64 0, .int .u64 0, .int .u64 0, .int .u64 0, .int .i64 i1] 29)); have UA2 := hidq ((UA1.out.below hb2).alloc (.cells #[.bool true, .bool false, .int .u64 0, .int .u64 0, .int .u64 0, .int .u64 0, .int .u64 0, .int .u64 0, .int .i64 i1] 29)); have V12 := hidq ((ts_ofown ho2 K1.out).alloc (.cells #[.bool true, .bool false, .int .u64 0, .int .u64 0, .int .u64 0, .int .u64 0, .int .u64 0, .int .u64 0, .int .i64 i1] 29)); have Xx12 := hidq (Bx9.new w2 (M.ofT i1)); have B2 := hidq (below_one (o := (.cells #[.bool true, .bool false, .int .u64 0, .int .u64 0, .int .u64 0, .int .u64 0, .int .u64 0, .int .u64 0, .int .i64 i1] 29)) (below_trans B1.out hb2)); clear ho2; clear ca1 la1 cb1 lb1; clear hb2 Ya2 Yb2 Ym2) | (go_at_call 10; clear T3; refine (H2.out _ _ V12.out).mono ?_; rintro e w3 ⟨v3, rfl, ho3, hb3⟩; obtain ⟨ao3, cap3, rfl, -⟩ := own_formq ho3; have Ya3 := Xa2.out.below hb3; have ca3 := Ya3.facts; have la3 := Ya3.lt; have Xa3 := hidq ((Ya3).alloc (.cells #[.bool true, .bool false, .int .u64 0, .int .u64 0, .int .u64 0, .int .u64 0, .int .u64 0, .int .u64 0, .int .i64 i2] 29)); have Yb3 := Xb2.out.below hb3; have cb3 := Yb3.facts; have lb3 := Yb3.lt; have Xb3 := hidq ((Yb3).alloc (.cells #[.bool true, .bool false, .int .u64 0, .int .u64 0, .int .u64 0, .int .u64 0, .int .u64 0, .int .u64 0, .int .i64 i2] 29)); have Ym3 := Xm2.out.below hb3; have cm3 := Ym3.cellsq; have lm3 := Ym3.lt; have Xm3 := hidq ((Ym3).alloc (.cells #[.bool true, .bool false, .int .u64 0, .int .u64 0, .int .u64 0, .int .u64 0, .int .u64 0, .int .u64 0, .int .i64 i2] 29)); have Yx13 := Xx12.out.below hb3; have cx13 := Yx13.cellsq; have lx13 := Yx13.lt; have Xx13 := hidq ((Yx13).alloc (.cells #[.bool true, .bool false, .int .u64 0, .int .u64 0, .int .u64 0, .int .u64 0, .int .u64 0, .int .u64 0, .int .i64 i2] 29)); have V13 := hidq ((V12.out.below hb3).alloc (.cells #[.bool true, .bool false, .int .u64 0, .int .u64 0, .int .u64 0, .int .u64 0, .int .u64 0, .int .u64 0, .int .i64 i2] 29)); have V23 := hidq ((ts_ofown ho3 K2.out).alloc (.cells #[.bool true, .bool false, .int .u64 0, .int .u64 0, .int .u64 0, .int .u64 0, .int .u64 0, .int .u64 0, .int .i64 i2] 29)); have Xx23 := hidq (Bx9.new w3 (M.ofT i2)); have B3 := hidq (below_one (o := (.cells #[.bool true, .bool false, .int .u64 0, .int .u64 0, .int .u64 0, .int .u64 0, .int .u64 0, .int .u64 0, .int .i64 i2] 29)) (below_trans B2.out hb3)); clear ho3; clear ca2 la2 cb2 lb2 cm2 lm2; clear hb3 Ya3 Yb3 Ym3 Yx13))
  obtain ⟨G4, HG4, HF4, HO4, HW4, ne4⟩ := clq_of w _ (fun X => Bi X w.heap.size 41 aI aJ ∧ Bi X (w.heap.size + 1) 41 bI bJ ∧ Bx9 X (w1.heap.size + 1) (M.ofT 0) ∧ Bx9 X w2.heap.size (M.ofT i1) ∧ Bx9 X w3.heap.size (M.ofT i2) ∧ Ts X (.slice ao3 L2.length cap3) L2) (fun _ _ h hb => ⟨h.1.below hb, h.2.1.below hb, h.2.2.1.below hb, h.2.2.2.1.below hb, h.2.2.2.2.1.below hb, h.2.2.2.2.2.below hb⟩) ⟨Xa3.out, Xb3.out, Xm3.out, Xx13.out, Xx23.out, V23.out⟩ B3.out
  have ga := fun c : Clq G4 => (HF4.out c).1.facts
  have gb := fun c : Clq G4 => (HF4.out c).2.1.facts
  have gm := fun c : Clq G4 => (HF4.out c).2.2.1.cellsq
  have gx1 := fun c : Clq G4 => (HF4.out c).2.2.2.1.cellsq
  have gx2 := fun c : Clq G4 => (HF4.out c).2.2.2.2.1.cellsq
  clear ca3 la3 cb3 lb3 cm3 lm3 cx13 lx13
  refine regionq (by kernel_rfl) (by kernel_rfl) HW4.out ?_
  repeat (go_big_quiet_step (fail))
  refine wpQuiet_nil ?_
  rintro _ ⟨s4, rfl⟩
  have Xa4 := hidq ((HF4.out s4).1)
  have Xb4 := hidq ((HF4.out s4).2.1)
  have Xm4 := hidq ((HF4.out s4).2.2.1)
  have Xx14 := hidq ((HF4.out s4).2.2.2.1)
  have Xx24 := hidq ((HF4.out s4).2.2.2.2.1)
  have V24 := hidq ((HF4.out s4).2.2.2.2.2)
  have B4 := hidq (HO4.out s4)
  generalize s4.W = w4 at *
  have ca4 := Xa4.out.facts
  have la4 := Xa4.out.lt
  have cb4 := Xb4.out.facts
  have lb4 := Xb4.out.lt
  have cm4 := Xm4.out.cellsq
  have lm4 := Xm4.out.lt
  have cx14 := Xx14.out.cellsq
  have lx14 := Xx14.out.lt
  have cx24 := Xx24.out.cellsq
  have lx24 := Xx24.out.lt
  clear ga gb gm gx1 gx2
  clear cx14 lx14
  clear cx24 lx24
  go_wp2_with (first | (go_at_call 12; clear T5; refine (H3.out _ _ V24.out).mono ?_; rintro e w5 ⟨v5, rfl, ho5, hb5⟩; obtain ⟨ao5, cap5, rfl, -⟩ := own_formq ho5; have Ya5 := Xa4.out.below hb5; have ca5 := Ya5.facts; have la5 := Ya5.lt; have Xa5 := hidq ((Ya5).alloc (.cells #[.bool false, .bool false, .int .u64 0, .int .u64 0, .int .u64 0, .int .u64 0, .int .u64 0, .int .u64 0, .int .i64 0] 29)); have Yb5 := Xb4.out.below hb5; have cb5 := Yb5.facts; have lb5 := Yb5.lt; have Xb5 := hidq ((Yb5).alloc (.cells #[.bool false, .bool false, .int .u64 0, .int .u64 0, .int .u64 0, .int .u64 0, .int .u64 0, .int .u64 0, .int .i64 0] 29)); have Ym5 := Xm4.out.below hb5; have cm5 := Ym5.cellsq; have lm5 := Ym5.lt; have Xm5 := hidq ((Ym5).alloc (.cells #[.bool false, .bool false, .int .u64 0, .int .u64 0, .int .u64 0, .int .u64 0, .int .u64 0, .int .u64 0, .int .i64 0] 29)); have V25 := hidq ((V24.out.below hb5).alloc (.cells #[.bool false, .bool false, .int .u64 0, .int .u64 0, .int .u64 0, .int .u64 0, .int .u64 0, .int .u64 0, .int .i64 0] 29)); have B5 := hidq (below_one (o := (.cells #[.bool false, .bool false, .int .u64 0, .int .u64 0, .int .u64 0, .int .u64 0, .int .u64 0, .int .u64 0, .int .i64 0] 29)) (below_trans B4.out hb5)); clear ho5; clear ca4 la4 cb4 lb4 cm4 lm4; clear hb5 Ya5 Yb5 Ym5))
  go_ret
  exact ⟨rfl, B5.out⟩
set_option maxRecDepth 100000 in
set_option maxHeartbeats 4000000 in
theorem labelApart_4 {h k n : Int} {aI aJ bI bJ : Int} {i1 i2 i3 : Int} {L1 L2 L3 L4 : List M.Tm} {e : Int} {q1 : Bool} (n0 : 0 ≤ n) (n1 : n ≤ 1048576) (h1 : M.nodeA [(1, n, 0)] h (M.ofT 0) aI = (M.ofT i1, L1, 0)) (o1 : M.Ok L1) (h2 : M.nodeA L1 h (M.ofT 0) bI = (M.ofT i2, L2, 0)) (o2 : M.Ok L2) (h3 : M.labA L2 h (M.ofT 0) aI aJ = (M.ofT i3, L3, 0)) (o3 : M.Ok L3) (h4 : M.labA L3 h (M.ofT 0) bI bJ = (M.zV, L4, e)) (he : ¬ e = 0) (q1a : (i1 == i2) = q1) (q1b : (aI == bI) = q1) (fa1 : 0 ≤ aI ∧ aI ≤ 18446744073709551615) (fa2 : 0 ≤ aJ ∧ aJ ≤ 18446744073709551615) (fb1 : 0 ≤ bI ∧ bI ≤ 18446744073709551615) (fb2 : 0 ≤ bJ ∧ bJ ≤ 18446744073709551615) (w : World) (hT : Tab w) :
    Calls Tryd.prog 4 #[.int .i64 h, .int .i64 k, .int .i64 n, .agg #[.int .u64 aI, .int .u64 aJ], .agg #[.int .u64 bI, .int .u64 bJ]] w fun e w' => e = .returned (.bool true) ∧ Below w.heap.size w w' := by
  have HUSE := And.intro fa1 (And.intro fa2 (And.intro fb1 fb2))
  clear HUSE
  have Xa0 := hidq ((Bi.new w 41 aI aJ).alloc (.cells #[.int .u64 bI, .int .u64 bJ] 41))
  have Xb0 := hidq (Bi.newa w aI aJ bI bJ)
  have B0 := hidq (show Below w.heap.size w ((w.alloc (.cells #[.int .u64 aI, .int .u64 aJ] 41)).alloc (.cells #[.int .u64 bI, .int .u64 bJ] 41)) from below_one (below_one (Below.refl _ _)))
  have ca0 := Xa0.out.facts
  have cb0 := Xb0.out.facts
  have HT := hidq (hT.below B0.out)
  clear hT
  obtain ⟨A, hA⟩ : ∃ A : List M.Tm, [(1, n, 0)] = A := ⟨_, rfl⟩
  have HA := hidq (fun W => hA ▸ Ts.atom W n n0 n1 W.heap.size rfl)
  rw [hA] at h1
  have m0 : ¬ n < 0 := by omega
  have m1 : ¬ 1048576 < n := by omega
  have H1 := hidq (fun W vl (u : Ts W vl A) => ofT_litq i1 ▸ lnode_eq h1 fa1.1 fa1.2 (vl := vl) W u)
  have K1 := hidq o1
  have H2 := hidq (fun W vl (u : Ts W vl L1) => ofT_litq i2 ▸ lnode_eq h2 fb1.1 fb1.2 (vl := vl) W u)
  have K2 := hidq o2
  have H3 := hidq (fun W vl (u : Ts W vl L2) => ofT_litq i3 ▸ llab_eq h3 fa1.1 fa1.2 fa2.1 fa2.2 (vl := vl) W u)
  have K3 := hidq o3
  have H4 := hidq (fun W vl (u : Ts W vl L3) => zV_eq ▸ llab_eq h4 fb1.1 fb1.2 fb2.1 fb2.2 (vl := vl) W u)
  have heb : (e == 0) = false := beq_eq_false_iff_ne.2 he
  have hec : (e != 0) = true := by simpa using he
  have E1 := fun w => eqTq i1 i2 w q1a
  have T2 := hidq trivial
  have T3 := hidq trivial
  have T5 := hidq trivial
  have T6 := hidq trivial
  clear fa1 fa2 fb1 fb2 hA n0 n1 h1 h2 h3 h4 o1 o2 o3
  go_enter Tryd.func4, Tryd.ntmps4
  go_upto_region 12 with (first | (go_at_call 7; refine (live13_any _ HT.out).mono ?_; rintro e w1 ⟨rfl, hb1⟩; have Ya1 := Xa0.out.below hb1; have ca1 := Ya1.facts; have la1 := Ya1.lt; have Xa1 := hidq (((Ya1).alloc (.cells #[.int .i64 1, .int .i64 n, .int .i64 0] 43)).alloc (.cells #[.bool true, .bool false, .int .u64 0, .int .u64 0, .int .u64 0, .int .u64 0, .int .u64 0, .int .u64 0, .int .i64 0] 29)); have Yb1 := Xb0.out.below hb1; have cb1 := Yb1.facts; have lb1 := Yb1.lt; have Xb1 := hidq (((Yb1).alloc (.cells #[.int .i64 1, .int .i64 n, .int .i64 0] 43)).alloc (.cells #[.bool true, .bool false, .int .u64 0, .int .u64 0, .int .u64 0, .int .u64 0, .int .u64 0, .int .u64 0, .int .i64 0] 29)); have Xm1 := hidq (tboxq (w1.alloc (.cells #[.int .i64 1, .int .i64 n, .int .i64 0] 43)) 0 (w1.heap.size + 1) (by simp)); have UA1 := hidq ((HA.out w1).alloc (.cells #[.bool true, .bool false, .int .u64 0, .int .u64 0, .int .u64 0, .int .u64 0, .int .u64 0, .int .u64 0, .int .i64 0] 29)); have B1 := hidq (below_one (o := (.cells #[.bool true, .bool false, .int .u64 0, .int .u64 0, .int .u64 0, .int .u64 0, .int .u64 0, .int .u64 0, .int .i64 0] 29)) (below_one (o := (.cells #[.int .i64 1, .int .i64 n, .int .i64 0] 43)) (below_trans B0.out hb1))); clear hb1 Ya1 Yb1) | (go_at_call 10; clear T2; refine (H1.out _ _ UA1.out).mono ?_; rintro e w2 ⟨v2, rfl, ho2, hb2⟩; obtain ⟨ao2, cap2, rfl, -⟩ := own_formq ho2; have Ya2 := Xa1.out.below hb2; have ca2 := Ya2.facts; have la2 := Ya2.lt; have Xa2 := hidq ((Ya2).alloc (.cells #[.bool true, .bool false, .int .u64 0, .int .u64 0, .int .u64 0, .int .u64 0, .int .u64 0, .int .u64 0, .int .i64 i1] 29)); have Yb2 := Xb1.out.below hb2; have cb2 := Yb2.facts; have lb2 := Yb2.lt; have Xb2 := hidq ((Yb2).alloc (.cells #[.bool true, .bool false, .int .u64 0, .int .u64 0, .int .u64 0, .int .u64 0, .int .u64 0, .int .u64 0, .int .i64 i1] 29)); have Ym2 := Xm1.out.below hb2; have cm2 := Ym2.cellsq; have lm2 := Ym2.lt; have Xm2 := hidq ((Ym2).alloc (.cells #[.bool true, .bool false, .int .u64 0, .int .u64 0, .int .u64 0, .int .u64 0, .int .u64 0, .int .u64 0, .int .i64 i1] 29)); have UA2 := hidq ((UA1.out.below hb2).alloc (.cells #[.bool true, .bool false, .int .u64 0, .int .u64 0, .int .u64 0, .int .u64 0, .int .u64 0, .int .u64 0, .int .i64 i1] 29)); have V12 := hidq ((ts_ofown ho2 K1.out).alloc (.cells #[.bool true, .bool false, .int .u64 0, .int .u64 0, .int .u64 0, .int .u64 0, .int .u64 0, .int .u64 0, .int .i64 i1] 29)); have Xx12 := hidq (Bx9.new w2 (M.ofT i1)); have B2 := hidq (below_one (o := (.cells #[.bool true, .bool false, .int .u64 0, .int .u64 0, .int .u64 0, .int .u64 0, .int .u64 0, .int .u64 0, .int .i64 i1] 29)) (below_trans B1.out hb2)); clear ho2; clear ca1 la1 cb1 lb1; clear hb2 Ya2 Yb2 Ym2) | (go_at_call 10; clear T3; refine (H2.out _ _ V12.out).mono ?_; rintro e w3 ⟨v3, rfl, ho3, hb3⟩; obtain ⟨ao3, cap3, rfl, -⟩ := own_formq ho3; have Ya3 := Xa2.out.below hb3; have ca3 := Ya3.facts; have la3 := Ya3.lt; have Xa3 := hidq ((Ya3).alloc (.cells #[.bool true, .bool false, .int .u64 0, .int .u64 0, .int .u64 0, .int .u64 0, .int .u64 0, .int .u64 0, .int .i64 i2] 29)); have Yb3 := Xb2.out.below hb3; have cb3 := Yb3.facts; have lb3 := Yb3.lt; have Xb3 := hidq ((Yb3).alloc (.cells #[.bool true, .bool false, .int .u64 0, .int .u64 0, .int .u64 0, .int .u64 0, .int .u64 0, .int .u64 0, .int .i64 i2] 29)); have Ym3 := Xm2.out.below hb3; have cm3 := Ym3.cellsq; have lm3 := Ym3.lt; have Xm3 := hidq ((Ym3).alloc (.cells #[.bool true, .bool false, .int .u64 0, .int .u64 0, .int .u64 0, .int .u64 0, .int .u64 0, .int .u64 0, .int .i64 i2] 29)); have Yx13 := Xx12.out.below hb3; have cx13 := Yx13.cellsq; have lx13 := Yx13.lt; have Xx13 := hidq ((Yx13).alloc (.cells #[.bool true, .bool false, .int .u64 0, .int .u64 0, .int .u64 0, .int .u64 0, .int .u64 0, .int .u64 0, .int .i64 i2] 29)); have V13 := hidq ((V12.out.below hb3).alloc (.cells #[.bool true, .bool false, .int .u64 0, .int .u64 0, .int .u64 0, .int .u64 0, .int .u64 0, .int .u64 0, .int .i64 i2] 29)); have V23 := hidq ((ts_ofown ho3 K2.out).alloc (.cells #[.bool true, .bool false, .int .u64 0, .int .u64 0, .int .u64 0, .int .u64 0, .int .u64 0, .int .u64 0, .int .i64 i2] 29)); have Xx23 := hidq (Bx9.new w3 (M.ofT i2)); have B3 := hidq (below_one (o := (.cells #[.bool true, .bool false, .int .u64 0, .int .u64 0, .int .u64 0, .int .u64 0, .int .u64 0, .int .u64 0, .int .i64 i2] 29)) (below_trans B2.out hb3)); clear ho3; clear ca2 la2 cb2 lb2 cm2 lm2; clear hb3 Ya3 Yb3 Ym3 Yx13))
  obtain ⟨G4, HG4, HF4, HO4, HW4, ne4⟩ := clq_of w _ (fun X => Bi X w.heap.size 41 aI aJ ∧ Bi X (w.heap.size + 1) 41 bI bJ ∧ Bx9 X (w1.heap.size + 1) (M.ofT 0) ∧ Bx9 X w2.heap.size (M.ofT i1) ∧ Bx9 X w3.heap.size (M.ofT i2) ∧ Ts X (.slice ao3 L2.length cap3) L2) (fun _ _ h hb => ⟨h.1.below hb, h.2.1.below hb, h.2.2.1.below hb, h.2.2.2.1.below hb, h.2.2.2.2.1.below hb, h.2.2.2.2.2.below hb⟩) ⟨Xa3.out, Xb3.out, Xm3.out, Xx13.out, Xx23.out, V23.out⟩ B3.out
  have ga := fun c : Clq G4 => (HF4.out c).1.facts
  have gb := fun c : Clq G4 => (HF4.out c).2.1.facts
  have gm := fun c : Clq G4 => (HF4.out c).2.2.1.cellsq
  have gx1 := fun c : Clq G4 => (HF4.out c).2.2.2.1.cellsq
  have gx2 := fun c : Clq G4 => (HF4.out c).2.2.2.2.1.cellsq
  clear ca3 la3 cb3 lb3 cm3 lm3 cx13 lx13
  refine regionq (by kernel_rfl) (by kernel_rfl) HW4.out ?_
  repeat (go_big_quiet_step (fail))
  refine wpQuiet_nil ?_
  rintro _ ⟨s4, rfl⟩
  have Xa4 := hidq ((HF4.out s4).1)
  have Xb4 := hidq ((HF4.out s4).2.1)
  have Xm4 := hidq ((HF4.out s4).2.2.1)
  have Xx14 := hidq ((HF4.out s4).2.2.2.1)
  have Xx24 := hidq ((HF4.out s4).2.2.2.2.1)
  have V24 := hidq ((HF4.out s4).2.2.2.2.2)
  have B4 := hidq (HO4.out s4)
  generalize s4.W = w4 at *
  have ca4 := Xa4.out.facts
  have la4 := Xa4.out.lt
  have cb4 := Xb4.out.facts
  have lb4 := Xb4.out.lt
  have cm4 := Xm4.out.cellsq
  have lm4 := Xm4.out.lt
  have cx14 := Xx14.out.cellsq
  have lx14 := Xx14.out.lt
  have cx24 := Xx24.out.cellsq
  have lx24 := Xx24.out.lt
  clear ga gb gm gx1 gx2
  clear cx14 lx14
  clear cx24 lx24
  go_wp2_with (first | (go_at_call 12; clear T5; refine (H3.out _ _ V24.out).mono ?_; rintro e w5 ⟨v5, rfl, ho5, hb5⟩; obtain ⟨ao5, cap5, rfl, -⟩ := own_formq ho5; have Ya5 := Xa4.out.below hb5; have ca5 := Ya5.facts; have la5 := Ya5.lt; have Xa5 := hidq ((Ya5).alloc (.cells #[.bool true, .bool false, .int .u64 0, .int .u64 0, .int .u64 0, .int .u64 0, .int .u64 0, .int .u64 0, .int .i64 i3] 29)); have Yb5 := Xb4.out.below hb5; have cb5 := Yb5.facts; have lb5 := Yb5.lt; have Xb5 := hidq ((Yb5).alloc (.cells #[.bool true, .bool false, .int .u64 0, .int .u64 0, .int .u64 0, .int .u64 0, .int .u64 0, .int .u64 0, .int .i64 i3] 29)); have Ym5 := Xm4.out.below hb5; have cm5 := Ym5.cellsq; have lm5 := Ym5.lt; have Xm5 := hidq ((Ym5).alloc (.cells #[.bool true, .bool false, .int .u64 0, .int .u64 0, .int .u64 0, .int .u64 0, .int .u64 0, .int .u64 0, .int .i64 i3] 29)); have V25 := hidq ((V24.out.below hb5).alloc (.cells #[.bool true, .bool false, .int .u64 0, .int .u64 0, .int .u64 0, .int .u64 0, .int .u64 0, .int .u64 0, .int .i64 i3] 29)); have V35 := hidq ((ts_ofown ho5 K3.out).alloc (.cells #[.bool true, .bool false, .int .u64 0, .int .u64 0, .int .u64 0, .int .u64 0, .int .u64 0, .int .u64 0, .int .i64 i3] 29)); have Xx35 := hidq (Bx9.new w5 (M.ofT i3)); have B5 := hidq (below_one (o := (.cells #[.bool true, .bool false, .int .u64 0, .int .u64 0, .int .u64 0, .int .u64 0, .int .u64 0, .int .u64 0, .int .i64 i3] 29)) (below_trans B4.out hb5)); clear ho5; clear ca4 la4 cb4 lb4 cm4 lm4; clear hb5 Ya5 Yb5 Ym5) | (go_at_call 12; clear T6; refine (H4.out _ _ V35.out).mono ?_; rintro e w6 ⟨v6, rfl, ho6, hb6⟩; obtain ⟨ao6, cap6, rfl, -⟩ := own_formq ho6; have Ya6 := Xa5.out.below hb6; have ca6 := Ya6.facts; have la6 := Ya6.lt; have Xa6 := hidq ((Ya6).alloc (.cells #[.bool false, .bool false, .int .u64 0, .int .u64 0, .int .u64 0, .int .u64 0, .int .u64 0, .int .u64 0, .int .i64 0] 29)); have Yb6 := Xb5.out.below hb6; have cb6 := Yb6.facts; have lb6 := Yb6.lt; have Xb6 := hidq ((Yb6).alloc (.cells #[.bool false, .bool false, .int .u64 0, .int .u64 0, .int .u64 0, .int .u64 0, .int .u64 0, .int .u64 0, .int .i64 0] 29)); have Ym6 := Xm5.out.below hb6; have cm6 := Ym6.cellsq; have lm6 := Ym6.lt; have Xm6 := hidq ((Ym6).alloc (.cells #[.bool false, .bool false, .int .u64 0, .int .u64 0, .int .u64 0, .int .u64 0, .int .u64 0, .int .u64 0, .int .i64 0] 29)); have Yx36 := Xx35.out.below hb6; have cx36 := Yx36.cellsq; have lx36 := Yx36.lt; have Xx36 := hidq ((Yx36).alloc (.cells #[.bool false, .bool false, .int .u64 0, .int .u64 0, .int .u64 0, .int .u64 0, .int .u64 0, .int .u64 0, .int .i64 0] 29)); have V36 := hidq ((V35.out.below hb6).alloc (.cells #[.bool false, .bool false, .int .u64 0, .int .u64 0, .int .u64 0, .int .u64 0, .int .u64 0, .int .u64 0, .int .i64 0] 29)); have B6 := hidq (below_one (o := (.cells #[.bool false, .bool false, .int .u64 0, .int .u64 0, .int .u64 0, .int .u64 0, .int .u64 0, .int .u64 0, .int .i64 0] 29)) (below_trans B5.out hb6)); clear ho6; clear ca5 la5 cb5 lb5 cm5 lm5; clear hb6 Ya6 Yb6 Ym6 Yx36))
  go_ret
  exact ⟨rfl, B6.out⟩
set_option maxRecDepth 100000 in
set_option maxHeartbeats 4000000 in
theorem labelApart_5 {h k n : Int} {aI aJ bI bJ : Int} {i1 i2 i3 i4 : Int} {L1 L2 L3 L4 L5 : List M.Tm} {e : Int} {q1 q2 : Bool} (n0 : 0 ≤ n) (n1 : n ≤ 1048576) (h1 : M.nodeA [(1, n, 0)] h (M.ofT 0) aI = (M.ofT i1, L1, 0)) (o1 : M.Ok L1) (h2 : M.nodeA L1 h (M.ofT 0) bI = (M.ofT i2, L2, 0)) (o2 : M.Ok L2) (h3 : M.labA L2 h (M.ofT 0) aI aJ = (M.ofT i3, L3, 0)) (o3 : M.Ok L3) (h4 : M.labA L3 h (M.ofT 0) bI bJ = (M.ofT i4, L4, 0)) (o4 : M.Ok L4) (h5 : M.keyA L4 h k (M.ofT 0) aI aJ = (M.zV, L5, e)) (he : ¬ e = 0) (q1a : (i1 == i2) = q1) (q1b : (aI == bI) = q1) (q2a : (i3 == i4) = q2) (q2b : decide (((aI, aJ) : Int × Int) = (bI, bJ)) = q2) (fa1 : 0 ≤ aI ∧ aI ≤ 18446744073709551615) (fa2 : 0 ≤ aJ ∧ aJ ≤ 18446744073709551615) (fb1 : 0 ≤ bI ∧ bI ≤ 18446744073709551615) (fb2 : 0 ≤ bJ ∧ bJ ≤ 18446744073709551615) (w : World) (hT : Tab w) :
    Calls Tryd.prog 4 #[.int .i64 h, .int .i64 k, .int .i64 n, .agg #[.int .u64 aI, .int .u64 aJ], .agg #[.int .u64 bI, .int .u64 bJ]] w fun e w' => e = .returned (.bool true) ∧ Below w.heap.size w w' := by
  have HUSE := And.intro fa1 (And.intro fa2 (And.intro fb1 fb2))
  clear HUSE
  have Xa0 := hidq ((Bi.new w 41 aI aJ).alloc (.cells #[.int .u64 bI, .int .u64 bJ] 41))
  have Xb0 := hidq (Bi.newa w aI aJ bI bJ)
  have B0 := hidq (show Below w.heap.size w ((w.alloc (.cells #[.int .u64 aI, .int .u64 aJ] 41)).alloc (.cells #[.int .u64 bI, .int .u64 bJ] 41)) from below_one (below_one (Below.refl _ _)))
  have ca0 := Xa0.out.facts
  have cb0 := Xb0.out.facts
  have HT := hidq (hT.below B0.out)
  clear hT
  obtain ⟨A, hA⟩ : ∃ A : List M.Tm, [(1, n, 0)] = A := ⟨_, rfl⟩
  have HA := hidq (fun W => hA ▸ Ts.atom W n n0 n1 W.heap.size rfl)
  rw [hA] at h1
  have m0 : ¬ n < 0 := by omega
  have m1 : ¬ 1048576 < n := by omega
  have H1 := hidq (fun W vl (u : Ts W vl A) => ofT_litq i1 ▸ lnode_eq h1 fa1.1 fa1.2 (vl := vl) W u)
  have K1 := hidq o1
  have H2 := hidq (fun W vl (u : Ts W vl L1) => ofT_litq i2 ▸ lnode_eq h2 fb1.1 fb1.2 (vl := vl) W u)
  have K2 := hidq o2
  have H3 := hidq (fun W vl (u : Ts W vl L2) => ofT_litq i3 ▸ llab_eq h3 fa1.1 fa1.2 fa2.1 fa2.2 (vl := vl) W u)
  have K3 := hidq o3
  have H4 := hidq (fun W vl (u : Ts W vl L3) => ofT_litq i4 ▸ llab_eq h4 fb1.1 fb1.2 fb2.1 fb2.2 (vl := vl) W u)
  have K4 := hidq o4
  have H5 := hidq (fun W vl (u : Ts W vl L4) => zV_eq ▸ lkey_eq h5 fa1.1 fa1.2 fa2.1 fa2.2 (vl := vl) W u)
  have heb : (e == 0) = false := beq_eq_false_iff_ne.2 he
  have hec : (e != 0) = true := by simpa using he
  have E1 := fun w => eqTq i1 i2 w q1a
  have E2 := fun w => eqTq i3 i4 w q2a
  have S2 := fun w => eqSq aI aJ bI bJ w q2b
  have T2 := hidq trivial
  have T3 := hidq trivial
  have T5 := hidq trivial
  have T6 := hidq trivial
  have T8 := hidq trivial
  clear fa1 fa2 fb1 fb2 hA n0 n1 h1 h2 h3 h4 h5 o1 o2 o3 o4
  go_enter Tryd.func4, Tryd.ntmps4
  go_upto_region 12 with (first | (go_at_call 7; refine (live13_any _ HT.out).mono ?_; rintro e w1 ⟨rfl, hb1⟩; have Ya1 := Xa0.out.below hb1; have ca1 := Ya1.facts; have la1 := Ya1.lt; have Xa1 := hidq (((Ya1).alloc (.cells #[.int .i64 1, .int .i64 n, .int .i64 0] 43)).alloc (.cells #[.bool true, .bool false, .int .u64 0, .int .u64 0, .int .u64 0, .int .u64 0, .int .u64 0, .int .u64 0, .int .i64 0] 29)); have Yb1 := Xb0.out.below hb1; have cb1 := Yb1.facts; have lb1 := Yb1.lt; have Xb1 := hidq (((Yb1).alloc (.cells #[.int .i64 1, .int .i64 n, .int .i64 0] 43)).alloc (.cells #[.bool true, .bool false, .int .u64 0, .int .u64 0, .int .u64 0, .int .u64 0, .int .u64 0, .int .u64 0, .int .i64 0] 29)); have Xm1 := hidq (tboxq (w1.alloc (.cells #[.int .i64 1, .int .i64 n, .int .i64 0] 43)) 0 (w1.heap.size + 1) (by simp)); have UA1 := hidq ((HA.out w1).alloc (.cells #[.bool true, .bool false, .int .u64 0, .int .u64 0, .int .u64 0, .int .u64 0, .int .u64 0, .int .u64 0, .int .i64 0] 29)); have B1 := hidq (below_one (o := (.cells #[.bool true, .bool false, .int .u64 0, .int .u64 0, .int .u64 0, .int .u64 0, .int .u64 0, .int .u64 0, .int .i64 0] 29)) (below_one (o := (.cells #[.int .i64 1, .int .i64 n, .int .i64 0] 43)) (below_trans B0.out hb1))); clear hb1 Ya1 Yb1) | (go_at_call 10; clear T2; refine (H1.out _ _ UA1.out).mono ?_; rintro e w2 ⟨v2, rfl, ho2, hb2⟩; obtain ⟨ao2, cap2, rfl, -⟩ := own_formq ho2; have Ya2 := Xa1.out.below hb2; have ca2 := Ya2.facts; have la2 := Ya2.lt; have Xa2 := hidq ((Ya2).alloc (.cells #[.bool true, .bool false, .int .u64 0, .int .u64 0, .int .u64 0, .int .u64 0, .int .u64 0, .int .u64 0, .int .i64 i1] 29)); have Yb2 := Xb1.out.below hb2; have cb2 := Yb2.facts; have lb2 := Yb2.lt; have Xb2 := hidq ((Yb2).alloc (.cells #[.bool true, .bool false, .int .u64 0, .int .u64 0, .int .u64 0, .int .u64 0, .int .u64 0, .int .u64 0, .int .i64 i1] 29)); have Ym2 := Xm1.out.below hb2; have cm2 := Ym2.cellsq; have lm2 := Ym2.lt; have Xm2 := hidq ((Ym2).alloc (.cells #[.bool true, .bool false, .int .u64 0, .int .u64 0, .int .u64 0, .int .u64 0, .int .u64 0, .int .u64 0, .int .i64 i1] 29)); have UA2 := hidq ((UA1.out.below hb2).alloc (.cells #[.bool true, .bool false, .int .u64 0, .int .u64 0, .int .u64 0, .int .u64 0, .int .u64 0, .int .u64 0, .int .i64 i1] 29)); have V12 := hidq ((ts_ofown ho2 K1.out).alloc (.cells #[.bool true, .bool false, .int .u64 0, .int .u64 0, .int .u64 0, .int .u64 0, .int .u64 0, .int .u64 0, .int .i64 i1] 29)); have Xx12 := hidq (Bx9.new w2 (M.ofT i1)); have B2 := hidq (below_one (o := (.cells #[.bool true, .bool false, .int .u64 0, .int .u64 0, .int .u64 0, .int .u64 0, .int .u64 0, .int .u64 0, .int .i64 i1] 29)) (below_trans B1.out hb2)); clear ho2; clear ca1 la1 cb1 lb1; clear hb2 Ya2 Yb2 Ym2) | (go_at_call 10; clear T3; refine (H2.out _ _ V12.out).mono ?_; rintro e w3 ⟨v3, rfl, ho3, hb3⟩; obtain ⟨ao3, cap3, rfl, -⟩ := own_formq ho3; have Ya3 := Xa2.out.below hb3; have ca3 := Ya3.facts; have la3 := Ya3.lt; have Xa3 := hidq ((Ya3).alloc (.cells #[.bool true, .bool false, .int .u64 0, .int .u64 0, .int .u64 0, .int .u64 0, .int .u64 0, .int .u64 0, .int .i64 i2] 29)); have Yb3 := Xb2.out.below hb3; have cb3 := Yb3.facts; have lb3 := Yb3.lt; have Xb3 := hidq ((Yb3).alloc (.cells #[.bool true, .bool false, .int .u64 0, .int .u64 0, .int .u64 0, .int .u64 0, .int .u64 0, .int .u64 0, .int .i64 i2] 29)); have Ym3 := Xm2.out.below hb3; have cm3 := Ym3.cellsq; have lm3 := Ym3.lt; have Xm3 := hidq ((Ym3).alloc (.cells #[.bool true, .bool false, .int .u64 0, .int .u64 0, .int .u64 0, .int .u64 0, .int .u64 0, .int .u64 0, .int .i64 i2] 29)); have Yx13 := Xx12.out.below hb3; have cx13 := Yx13.cellsq; have lx13 := Yx13.lt; have Xx13 := hidq ((Yx13).alloc (.cells #[.bool true, .bool false, .int .u64 0, .int .u64 0, .int .u64 0, .int .u64 0, .int .u64 0, .int .u64 0, .int .i64 i2] 29)); have V13 := hidq ((V12.out.below hb3).alloc (.cells #[.bool true, .bool false, .int .u64 0, .int .u64 0, .int .u64 0, .int .u64 0, .int .u64 0, .int .u64 0, .int .i64 i2] 29)); have V23 := hidq ((ts_ofown ho3 K2.out).alloc (.cells #[.bool true, .bool false, .int .u64 0, .int .u64 0, .int .u64 0, .int .u64 0, .int .u64 0, .int .u64 0, .int .i64 i2] 29)); have Xx23 := hidq (Bx9.new w3 (M.ofT i2)); have B3 := hidq (below_one (o := (.cells #[.bool true, .bool false, .int .u64 0, .int .u64 0, .int .u64 0, .int .u64 0, .int .u64 0, .int .u64 0, .int .i64 i2] 29)) (below_trans B2.out hb3)); clear ho3; clear ca2 la2 cb2 lb2 cm2 lm2; clear hb3 Ya3 Yb3 Ym3 Yx13))
  obtain ⟨G4, HG4, HF4, HO4, HW4, ne4⟩ := clq_of w _ (fun X => Bi X w.heap.size 41 aI aJ ∧ Bi X (w.heap.size + 1) 41 bI bJ ∧ Bx9 X (w1.heap.size + 1) (M.ofT 0) ∧ Bx9 X w2.heap.size (M.ofT i1) ∧ Bx9 X w3.heap.size (M.ofT i2) ∧ Ts X (.slice ao3 L2.length cap3) L2) (fun _ _ h hb => ⟨h.1.below hb, h.2.1.below hb, h.2.2.1.below hb, h.2.2.2.1.below hb, h.2.2.2.2.1.below hb, h.2.2.2.2.2.below hb⟩) ⟨Xa3.out, Xb3.out, Xm3.out, Xx13.out, Xx23.out, V23.out⟩ B3.out
  have ga := fun c : Clq G4 => (HF4.out c).1.facts
  have gb := fun c : Clq G4 => (HF4.out c).2.1.facts
  have gm := fun c : Clq G4 => (HF4.out c).2.2.1.cellsq
  have gx1 := fun c : Clq G4 => (HF4.out c).2.2.2.1.cellsq
  have gx2 := fun c : Clq G4 => (HF4.out c).2.2.2.2.1.cellsq
  clear ca3 la3 cb3 lb3 cm3 lm3 cx13 lx13
  refine regionq (by kernel_rfl) (by kernel_rfl) HW4.out ?_
  repeat (go_big_quiet_step (fail))
  refine wpQuiet_nil ?_
  rintro _ ⟨s4, rfl⟩
  have Xa4 := hidq ((HF4.out s4).1)
  have Xb4 := hidq ((HF4.out s4).2.1)
  have Xm4 := hidq ((HF4.out s4).2.2.1)
  have Xx14 := hidq ((HF4.out s4).2.2.2.1)
  have Xx24 := hidq ((HF4.out s4).2.2.2.2.1)
  have V24 := hidq ((HF4.out s4).2.2.2.2.2)
  have B4 := hidq (HO4.out s4)
  generalize s4.W = w4 at *
  have ca4 := Xa4.out.facts
  have la4 := Xa4.out.lt
  have cb4 := Xb4.out.facts
  have lb4 := Xb4.out.lt
  have cm4 := Xm4.out.cellsq
  have lm4 := Xm4.out.lt
  have cx14 := Xx14.out.cellsq
  have lx14 := Xx14.out.lt
  have cx24 := Xx24.out.cellsq
  have lx24 := Xx24.out.lt
  clear ga gb gm gx1 gx2
  clear cx14 lx14
  clear cx24 lx24
  go_upto_region 20 with (first | (go_at_call 12; clear T5; refine (H3.out _ _ V24.out).mono ?_; rintro e w5 ⟨v5, rfl, ho5, hb5⟩; obtain ⟨ao5, cap5, rfl, -⟩ := own_formq ho5; have Ya5 := Xa4.out.below hb5; have ca5 := Ya5.facts; have la5 := Ya5.lt; have Xa5 := hidq ((Ya5).alloc (.cells #[.bool true, .bool false, .int .u64 0, .int .u64 0, .int .u64 0, .int .u64 0, .int .u64 0, .int .u64 0, .int .i64 i3] 29)); have Yb5 := Xb4.out.below hb5; have cb5 := Yb5.facts; have lb5 := Yb5.lt; have Xb5 := hidq ((Yb5).alloc (.cells #[.bool true, .bool false, .int .u64 0, .int .u64 0, .int .u64 0, .int .u64 0, .int .u64 0, .int .u64 0, .int .i64 i3] 29)); have Ym5 := Xm4.out.below hb5; have cm5 := Ym5.cellsq; have lm5 := Ym5.lt; have Xm5 := hidq ((Ym5).alloc (.cells #[.bool true, .bool false, .int .u64 0, .int .u64 0, .int .u64 0, .int .u64 0, .int .u64 0, .int .u64 0, .int .i64 i3] 29)); have V25 := hidq ((V24.out.below hb5).alloc (.cells #[.bool true, .bool false, .int .u64 0, .int .u64 0, .int .u64 0, .int .u64 0, .int .u64 0, .int .u64 0, .int .i64 i3] 29)); have V35 := hidq ((ts_ofown ho5 K3.out).alloc (.cells #[.bool true, .bool false, .int .u64 0, .int .u64 0, .int .u64 0, .int .u64 0, .int .u64 0, .int .u64 0, .int .i64 i3] 29)); have Xx35 := hidq (Bx9.new w5 (M.ofT i3)); have B5 := hidq (below_one (o := (.cells #[.bool true, .bool false, .int .u64 0, .int .u64 0, .int .u64 0, .int .u64 0, .int .u64 0, .int .u64 0, .int .i64 i3] 29)) (below_trans B4.out hb5)); clear ho5; clear ca4 la4 cb4 lb4 cm4 lm4; clear hb5 Ya5 Yb5 Ym5) | (go_at_call 12; clear T6; refine (H4.out _ _ V35.out).mono ?_; rintro e w6 ⟨v6, rfl, ho6, hb6⟩; obtain ⟨ao6, cap6, rfl, -⟩ := own_formq ho6; have Ya6 := Xa5.out.below hb6; have ca6 := Ya6.facts; have la6 := Ya6.lt; have Xa6 := hidq ((Ya6).alloc (.cells #[.bool true, .bool false, .int .u64 0, .int .u64 0, .int .u64 0, .int .u64 0, .int .u64 0, .int .u64 0, .int .i64 i4] 29)); have Yb6 := Xb5.out.below hb6; have cb6 := Yb6.facts; have lb6 := Yb6.lt; have Xb6 := hidq ((Yb6).alloc (.cells #[.bool true, .bool false, .int .u64 0, .int .u64 0, .int .u64 0, .int .u64 0, .int .u64 0, .int .u64 0, .int .i64 i4] 29)); have Ym6 := Xm5.out.below hb6; have cm6 := Ym6.cellsq; have lm6 := Ym6.lt; have Xm6 := hidq ((Ym6).alloc (.cells #[.bool true, .bool false, .int .u64 0, .int .u64 0, .int .u64 0, .int .u64 0, .int .u64 0, .int .u64 0, .int .i64 i4] 29)); have Yx36 := Xx35.out.below hb6; have cx36 := Yx36.cellsq; have lx36 := Yx36.lt; have Xx36 := hidq ((Yx36).alloc (.cells #[.bool true, .bool false, .int .u64 0, .int .u64 0, .int .u64 0, .int .u64 0, .int .u64 0, .int .u64 0, .int .i64 i4] 29)); have V36 := hidq ((V35.out.below hb6).alloc (.cells #[.bool true, .bool false, .int .u64 0, .int .u64 0, .int .u64 0, .int .u64 0, .int .u64 0, .int .u64 0, .int .i64 i4] 29)); have V46 := hidq ((ts_ofown ho6 K4.out).alloc (.cells #[.bool true, .bool false, .int .u64 0, .int .u64 0, .int .u64 0, .int .u64 0, .int .u64 0, .int .u64 0, .int .i64 i4] 29)); have Xx46 := hidq (Bx9.new w6 (M.ofT i4)); have B6 := hidq (below_one (o := (.cells #[.bool true, .bool false, .int .u64 0, .int .u64 0, .int .u64 0, .int .u64 0, .int .u64 0, .int .u64 0, .int .i64 i4] 29)) (below_trans B5.out hb6)); clear ho6; clear ca5 la5 cb5 lb5 cm5 lm5; clear hb6 Ya6 Yb6 Ym6 Yx36))
  obtain ⟨G7, HG7, HF7, HO7, HW7, ne7⟩ := clq_of w _ (fun X => Bi X w.heap.size 41 aI aJ ∧ Bi X (w.heap.size + 1) 41 bI bJ ∧ Bx9 X (w1.heap.size + 1) (M.ofT 0) ∧ Bx9 X w5.heap.size (M.ofT i3) ∧ Bx9 X w6.heap.size (M.ofT i4) ∧ Ts X (.slice ao6 L4.length cap6) L4) (fun _ _ h hb => ⟨h.1.below hb, h.2.1.below hb, h.2.2.1.below hb, h.2.2.2.1.below hb, h.2.2.2.2.1.below hb, h.2.2.2.2.2.below hb⟩) ⟨Xa6.out, Xb6.out, Xm6.out, Xx36.out, Xx46.out, V46.out⟩ B6.out
  have ga := fun c : Clq G7 => (HF7.out c).1.facts
  have gb := fun c : Clq G7 => (HF7.out c).2.1.facts
  have gm := fun c : Clq G7 => (HF7.out c).2.2.1.cellsq
  have gx3 := fun c : Clq G7 => (HF7.out c).2.2.2.1.cellsq
  have gx4 := fun c : Clq G7 => (HF7.out c).2.2.2.2.1.cellsq
  clear ca6 la6 cb6 lb6 cm6 lm6 cx36 lx36
  refine regionq (by kernel_rfl) (by kernel_rfl) HW7.out ?_
  repeat (go_big_quiet_step (fail))
  refine wpQuiet_nil ?_
  rintro _ ⟨s7, rfl⟩
  have Xa7 := hidq ((HF7.out s7).1)
  have Xb7 := hidq ((HF7.out s7).2.1)
  have Xm7 := hidq ((HF7.out s7).2.2.1)
  have Xx37 := hidq ((HF7.out s7).2.2.2.1)
  have Xx47 := hidq ((HF7.out s7).2.2.2.2.1)
  have V47 := hidq ((HF7.out s7).2.2.2.2.2)
  have B7 := hidq (HO7.out s7)
  generalize s7.W = w7 at *
  have ca7 := Xa7.out.facts
  have la7 := Xa7.out.lt
  have cb7 := Xb7.out.facts
  have lb7 := Xb7.out.lt
  have cm7 := Xm7.out.cellsq
  have lm7 := Xm7.out.lt
  have cx37 := Xx37.out.cellsq
  have lx37 := Xx37.out.lt
  have cx47 := Xx47.out.cellsq
  have lx47 := Xx47.out.lt
  clear ga gb gm gx3 gx4
  clear cx37 lx37
  clear cx47 lx47
  go_wp2_with (first | (go_at_call 13; clear T8; refine (H5.out _ _ V47.out).mono ?_; rintro e w8 ⟨v8, rfl, ho8, hb8⟩; obtain ⟨ao8, cap8, rfl, -⟩ := own_formq ho8; have Ya8 := Xa7.out.below hb8; have ca8 := Ya8.facts; have la8 := Ya8.lt; have Xa8 := hidq ((Ya8).alloc (.cells #[.bool false, .bool false, .int .u64 0, .int .u64 0, .int .u64 0, .int .u64 0, .int .u64 0, .int .u64 0, .int .i64 0] 29)); have Yb8 := Xb7.out.below hb8; have cb8 := Yb8.facts; have lb8 := Yb8.lt; have Xb8 := hidq ((Yb8).alloc (.cells #[.bool false, .bool false, .int .u64 0, .int .u64 0, .int .u64 0, .int .u64 0, .int .u64 0, .int .u64 0, .int .i64 0] 29)); have Ym8 := Xm7.out.below hb8; have cm8 := Ym8.cellsq; have lm8 := Ym8.lt; have Xm8 := hidq ((Ym8).alloc (.cells #[.bool false, .bool false, .int .u64 0, .int .u64 0, .int .u64 0, .int .u64 0, .int .u64 0, .int .u64 0, .int .i64 0] 29)); have V48 := hidq ((V47.out.below hb8).alloc (.cells #[.bool false, .bool false, .int .u64 0, .int .u64 0, .int .u64 0, .int .u64 0, .int .u64 0, .int .u64 0, .int .i64 0] 29)); have B8 := hidq (below_one (o := (.cells #[.bool false, .bool false, .int .u64 0, .int .u64 0, .int .u64 0, .int .u64 0, .int .u64 0, .int .u64 0, .int .i64 0] 29)) (below_trans B7.out hb8)); clear ho8; clear ca7 la7 cb7 lb7 cm7 lm7; clear hb8 Ya8 Yb8 Ym8))
  go_ret
  exact ⟨rfl, B8.out⟩
set_option maxRecDepth 100000 in
set_option maxHeartbeats 4000000 in
theorem labelApart_6 {h k n : Int} {aI aJ bI bJ : Int} {i1 i2 i3 i4 i5 : Int} {L1 L2 L3 L4 L5 L6 : List M.Tm} {e : Int} {q1 q2 : Bool} (n0 : 0 ≤ n) (n1 : n ≤ 1048576) (h1 : M.nodeA [(1, n, 0)] h (M.ofT 0) aI = (M.ofT i1, L1, 0)) (o1 : M.Ok L1) (h2 : M.nodeA L1 h (M.ofT 0) bI = (M.ofT i2, L2, 0)) (o2 : M.Ok L2) (h3 : M.labA L2 h (M.ofT 0) aI aJ = (M.ofT i3, L3, 0)) (o3 : M.Ok L3) (h4 : M.labA L3 h (M.ofT 0) bI bJ = (M.ofT i4, L4, 0)) (o4 : M.Ok L4) (h5 : M.keyA L4 h k (M.ofT 0) aI aJ = (M.ofT i5, L5, 0)) (o5 : M.Ok L5) (h6 : M.keyA L5 h k (M.ofT 0) bI bJ = (M.zV, L6, e)) (he : ¬ e = 0) (q1a : (i1 == i2) = q1) (q1b : (aI == bI) = q1) (q2a : (i3 == i4) = q2) (q2b : decide (((aI, aJ) : Int × Int) = (bI, bJ)) = q2) (fa1 : 0 ≤ aI ∧ aI ≤ 18446744073709551615) (fa2 : 0 ≤ aJ ∧ aJ ≤ 18446744073709551615) (fb1 : 0 ≤ bI ∧ bI ≤ 18446744073709551615) (fb2 : 0 ≤ bJ ∧ bJ ≤ 18446744073709551615) (w : World) (hT : Tab w) :
    Calls Tryd.prog 4 #[.int .i64 h, .int .i64 k, .int .i64 n, .agg #[.int .u64 aI, .int .u64 aJ], .agg #[.int .u64 bI, .int .u64 bJ]] w fun e w' => e = .returned (.bool true) ∧ Below w.heap.size w w' := by
  have HUSE := And.intro fa1 (And.intro fa2 (And.intro fb1 fb2))
  clear HUSE
  have Xa0 := hidq ((Bi.new w 41 aI aJ).alloc (.cells #[.int .u64 bI, .int .u64 bJ] 41))
  have Xb0 := hidq (Bi.newa w aI aJ bI bJ)
  have B0 := hidq (show Below w.heap.size w ((w.alloc (.cells #[.int .u64 aI, .int .u64 aJ] 41)).alloc (.cells #[.int .u64 bI, .int .u64 bJ] 41)) from below_one (below_one (Below.refl _ _)))
  have ca0 := Xa0.out.facts
  have cb0 := Xb0.out.facts
  have HT := hidq (hT.below B0.out)
  clear hT
  obtain ⟨A, hA⟩ : ∃ A : List M.Tm, [(1, n, 0)] = A := ⟨_, rfl⟩
  have HA := hidq (fun W => hA ▸ Ts.atom W n n0 n1 W.heap.size rfl)
  rw [hA] at h1
  have m0 : ¬ n < 0 := by omega
  have m1 : ¬ 1048576 < n := by omega
  have H1 := hidq (fun W vl (u : Ts W vl A) => ofT_litq i1 ▸ lnode_eq h1 fa1.1 fa1.2 (vl := vl) W u)
  have K1 := hidq o1
  have H2 := hidq (fun W vl (u : Ts W vl L1) => ofT_litq i2 ▸ lnode_eq h2 fb1.1 fb1.2 (vl := vl) W u)
  have K2 := hidq o2
  have H3 := hidq (fun W vl (u : Ts W vl L2) => ofT_litq i3 ▸ llab_eq h3 fa1.1 fa1.2 fa2.1 fa2.2 (vl := vl) W u)
  have K3 := hidq o3
  have H4 := hidq (fun W vl (u : Ts W vl L3) => ofT_litq i4 ▸ llab_eq h4 fb1.1 fb1.2 fb2.1 fb2.2 (vl := vl) W u)
  have K4 := hidq o4
  have H5 := hidq (fun W vl (u : Ts W vl L4) => ofT_litq i5 ▸ lkey_eq h5 fa1.1 fa1.2 fa2.1 fa2.2 (vl := vl) W u)
  have K5 := hidq o5
  have H6 := hidq (fun W vl (u : Ts W vl L5) => zV_eq ▸ lkey_eq h6 fb1.1 fb1.2 fb2.1 fb2.2 (vl := vl) W u)
  have heb : (e == 0) = false := beq_eq_false_iff_ne.2 he
  have hec : (e != 0) = true := by simpa using he
  have E1 := fun w => eqTq i1 i2 w q1a
  have E2 := fun w => eqTq i3 i4 w q2a
  have S2 := fun w => eqSq aI aJ bI bJ w q2b
  have T2 := hidq trivial
  have T3 := hidq trivial
  have T5 := hidq trivial
  have T6 := hidq trivial
  have T8 := hidq trivial
  have T9 := hidq trivial
  clear fa1 fa2 fb1 fb2 hA n0 n1 h1 h2 h3 h4 h5 h6 o1 o2 o3 o4 o5
  go_enter Tryd.func4, Tryd.ntmps4
  go_upto_region 12 with (first | (go_at_call 7; refine (live13_any _ HT.out).mono ?_; rintro e w1 ⟨rfl, hb1⟩; have Ya1 := Xa0.out.below hb1; have ca1 := Ya1.facts; have la1 := Ya1.lt; have Xa1 := hidq (((Ya1).alloc (.cells #[.int .i64 1, .int .i64 n, .int .i64 0] 43)).alloc (.cells #[.bool true, .bool false, .int .u64 0, .int .u64 0, .int .u64 0, .int .u64 0, .int .u64 0, .int .u64 0, .int .i64 0] 29)); have Yb1 := Xb0.out.below hb1; have cb1 := Yb1.facts; have lb1 := Yb1.lt; have Xb1 := hidq (((Yb1).alloc (.cells #[.int .i64 1, .int .i64 n, .int .i64 0] 43)).alloc (.cells #[.bool true, .bool false, .int .u64 0, .int .u64 0, .int .u64 0, .int .u64 0, .int .u64 0, .int .u64 0, .int .i64 0] 29)); have Xm1 := hidq (tboxq (w1.alloc (.cells #[.int .i64 1, .int .i64 n, .int .i64 0] 43)) 0 (w1.heap.size + 1) (by simp)); have UA1 := hidq ((HA.out w1).alloc (.cells #[.bool true, .bool false, .int .u64 0, .int .u64 0, .int .u64 0, .int .u64 0, .int .u64 0, .int .u64 0, .int .i64 0] 29)); have B1 := hidq (below_one (o := (.cells #[.bool true, .bool false, .int .u64 0, .int .u64 0, .int .u64 0, .int .u64 0, .int .u64 0, .int .u64 0, .int .i64 0] 29)) (below_one (o := (.cells #[.int .i64 1, .int .i64 n, .int .i64 0] 43)) (below_trans B0.out hb1))); clear hb1 Ya1 Yb1) | (go_at_call 10; clear T2; refine (H1.out _ _ UA1.out).mono ?_; rintro e w2 ⟨v2, rfl, ho2, hb2⟩; obtain ⟨ao2, cap2, rfl, -⟩ := own_formq ho2; have Ya2 := Xa1.out.below hb2; have ca2 := Ya2.facts; have la2 := Ya2.lt; have Xa2 := hidq ((Ya2).alloc (.cells #[.bool true, .bool false, .int .u64 0, .int .u64 0, .int .u64 0, .int .u64 0, .int .u64 0, .int .u64 0, .int .i64 i1] 29)); have Yb2 := Xb1.out.below hb2; have cb2 := Yb2.facts; have lb2 := Yb2.lt; have Xb2 := hidq ((Yb2).alloc (.cells #[.bool true, .bool false, .int .u64 0, .int .u64 0, .int .u64 0, .int .u64 0, .int .u64 0, .int .u64 0, .int .i64 i1] 29)); have Ym2 := Xm1.out.below hb2; have cm2 := Ym2.cellsq; have lm2 := Ym2.lt; have Xm2 := hidq ((Ym2).alloc (.cells #[.bool true, .bool false, .int .u64 0, .int .u64 0, .int .u64 0, .int .u64 0, .int .u64 0, .int .u64 0, .int .i64 i1] 29)); have UA2 := hidq ((UA1.out.below hb2).alloc (.cells #[.bool true, .bool false, .int .u64 0, .int .u64 0, .int .u64 0, .int .u64 0, .int .u64 0, .int .u64 0, .int .i64 i1] 29)); have V12 := hidq ((ts_ofown ho2 K1.out).alloc (.cells #[.bool true, .bool false, .int .u64 0, .int .u64 0, .int .u64 0, .int .u64 0, .int .u64 0, .int .u64 0, .int .i64 i1] 29)); have Xx12 := hidq (Bx9.new w2 (M.ofT i1)); have B2 := hidq (below_one (o := (.cells #[.bool true, .bool false, .int .u64 0, .int .u64 0, .int .u64 0, .int .u64 0, .int .u64 0, .int .u64 0, .int .i64 i1] 29)) (below_trans B1.out hb2)); clear ho2; clear ca1 la1 cb1 lb1; clear hb2 Ya2 Yb2 Ym2) | (go_at_call 10; clear T3; refine (H2.out _ _ V12.out).mono ?_; rintro e w3 ⟨v3, rfl, ho3, hb3⟩; obtain ⟨ao3, cap3, rfl, -⟩ := own_formq ho3; have Ya3 := Xa2.out.below hb3; have ca3 := Ya3.facts; have la3 := Ya3.lt; have Xa3 := hidq ((Ya3).alloc (.cells #[.bool true, .bool false, .int .u64 0, .int .u64 0, .int .u64 0, .int .u64 0, .int .u64 0, .int .u64 0, .int .i64 i2] 29)); have Yb3 := Xb2.out.below hb3; have cb3 := Yb3.facts; have lb3 := Yb3.lt; have Xb3 := hidq ((Yb3).alloc (.cells #[.bool true, .bool false, .int .u64 0, .int .u64 0, .int .u64 0, .int .u64 0, .int .u64 0, .int .u64 0, .int .i64 i2] 29)); have Ym3 := Xm2.out.below hb3; have cm3 := Ym3.cellsq; have lm3 := Ym3.lt; have Xm3 := hidq ((Ym3).alloc (.cells #[.bool true, .bool false, .int .u64 0, .int .u64 0, .int .u64 0, .int .u64 0, .int .u64 0, .int .u64 0, .int .i64 i2] 29)); have Yx13 := Xx12.out.below hb3; have cx13 := Yx13.cellsq; have lx13 := Yx13.lt; have Xx13 := hidq ((Yx13).alloc (.cells #[.bool true, .bool false, .int .u64 0, .int .u64 0, .int .u64 0, .int .u64 0, .int .u64 0, .int .u64 0, .int .i64 i2] 29)); have V13 := hidq ((V12.out.below hb3).alloc (.cells #[.bool true, .bool false, .int .u64 0, .int .u64 0, .int .u64 0, .int .u64 0, .int .u64 0, .int .u64 0, .int .i64 i2] 29)); have V23 := hidq ((ts_ofown ho3 K2.out).alloc (.cells #[.bool true, .bool false, .int .u64 0, .int .u64 0, .int .u64 0, .int .u64 0, .int .u64 0, .int .u64 0, .int .i64 i2] 29)); have Xx23 := hidq (Bx9.new w3 (M.ofT i2)); have B3 := hidq (below_one (o := (.cells #[.bool true, .bool false, .int .u64 0, .int .u64 0, .int .u64 0, .int .u64 0, .int .u64 0, .int .u64 0, .int .i64 i2] 29)) (below_trans B2.out hb3)); clear ho3; clear ca2 la2 cb2 lb2 cm2 lm2; clear hb3 Ya3 Yb3 Ym3 Yx13))
  obtain ⟨G4, HG4, HF4, HO4, HW4, ne4⟩ := clq_of w _ (fun X => Bi X w.heap.size 41 aI aJ ∧ Bi X (w.heap.size + 1) 41 bI bJ ∧ Bx9 X (w1.heap.size + 1) (M.ofT 0) ∧ Bx9 X w2.heap.size (M.ofT i1) ∧ Bx9 X w3.heap.size (M.ofT i2) ∧ Ts X (.slice ao3 L2.length cap3) L2) (fun _ _ h hb => ⟨h.1.below hb, h.2.1.below hb, h.2.2.1.below hb, h.2.2.2.1.below hb, h.2.2.2.2.1.below hb, h.2.2.2.2.2.below hb⟩) ⟨Xa3.out, Xb3.out, Xm3.out, Xx13.out, Xx23.out, V23.out⟩ B3.out
  have ga := fun c : Clq G4 => (HF4.out c).1.facts
  have gb := fun c : Clq G4 => (HF4.out c).2.1.facts
  have gm := fun c : Clq G4 => (HF4.out c).2.2.1.cellsq
  have gx1 := fun c : Clq G4 => (HF4.out c).2.2.2.1.cellsq
  have gx2 := fun c : Clq G4 => (HF4.out c).2.2.2.2.1.cellsq
  clear ca3 la3 cb3 lb3 cm3 lm3 cx13 lx13
  refine regionq (by kernel_rfl) (by kernel_rfl) HW4.out ?_
  repeat (go_big_quiet_step (fail))
  refine wpQuiet_nil ?_
  rintro _ ⟨s4, rfl⟩
  have Xa4 := hidq ((HF4.out s4).1)
  have Xb4 := hidq ((HF4.out s4).2.1)
  have Xm4 := hidq ((HF4.out s4).2.2.1)
  have Xx14 := hidq ((HF4.out s4).2.2.2.1)
  have Xx24 := hidq ((HF4.out s4).2.2.2.2.1)
  have V24 := hidq ((HF4.out s4).2.2.2.2.2)
  have B4 := hidq (HO4.out s4)
  generalize s4.W = w4 at *
  have ca4 := Xa4.out.facts
  have la4 := Xa4.out.lt
  have cb4 := Xb4.out.facts
  have lb4 := Xb4.out.lt
  have cm4 := Xm4.out.cellsq
  have lm4 := Xm4.out.lt
  have cx14 := Xx14.out.cellsq
  have lx14 := Xx14.out.lt
  have cx24 := Xx24.out.cellsq
  have lx24 := Xx24.out.lt
  clear ga gb gm gx1 gx2
  clear cx14 lx14
  clear cx24 lx24
  go_upto_region 20 with (first | (go_at_call 12; clear T5; refine (H3.out _ _ V24.out).mono ?_; rintro e w5 ⟨v5, rfl, ho5, hb5⟩; obtain ⟨ao5, cap5, rfl, -⟩ := own_formq ho5; have Ya5 := Xa4.out.below hb5; have ca5 := Ya5.facts; have la5 := Ya5.lt; have Xa5 := hidq ((Ya5).alloc (.cells #[.bool true, .bool false, .int .u64 0, .int .u64 0, .int .u64 0, .int .u64 0, .int .u64 0, .int .u64 0, .int .i64 i3] 29)); have Yb5 := Xb4.out.below hb5; have cb5 := Yb5.facts; have lb5 := Yb5.lt; have Xb5 := hidq ((Yb5).alloc (.cells #[.bool true, .bool false, .int .u64 0, .int .u64 0, .int .u64 0, .int .u64 0, .int .u64 0, .int .u64 0, .int .i64 i3] 29)); have Ym5 := Xm4.out.below hb5; have cm5 := Ym5.cellsq; have lm5 := Ym5.lt; have Xm5 := hidq ((Ym5).alloc (.cells #[.bool true, .bool false, .int .u64 0, .int .u64 0, .int .u64 0, .int .u64 0, .int .u64 0, .int .u64 0, .int .i64 i3] 29)); have V25 := hidq ((V24.out.below hb5).alloc (.cells #[.bool true, .bool false, .int .u64 0, .int .u64 0, .int .u64 0, .int .u64 0, .int .u64 0, .int .u64 0, .int .i64 i3] 29)); have V35 := hidq ((ts_ofown ho5 K3.out).alloc (.cells #[.bool true, .bool false, .int .u64 0, .int .u64 0, .int .u64 0, .int .u64 0, .int .u64 0, .int .u64 0, .int .i64 i3] 29)); have Xx35 := hidq (Bx9.new w5 (M.ofT i3)); have B5 := hidq (below_one (o := (.cells #[.bool true, .bool false, .int .u64 0, .int .u64 0, .int .u64 0, .int .u64 0, .int .u64 0, .int .u64 0, .int .i64 i3] 29)) (below_trans B4.out hb5)); clear ho5; clear ca4 la4 cb4 lb4 cm4 lm4; clear hb5 Ya5 Yb5 Ym5) | (go_at_call 12; clear T6; refine (H4.out _ _ V35.out).mono ?_; rintro e w6 ⟨v6, rfl, ho6, hb6⟩; obtain ⟨ao6, cap6, rfl, -⟩ := own_formq ho6; have Ya6 := Xa5.out.below hb6; have ca6 := Ya6.facts; have la6 := Ya6.lt; have Xa6 := hidq ((Ya6).alloc (.cells #[.bool true, .bool false, .int .u64 0, .int .u64 0, .int .u64 0, .int .u64 0, .int .u64 0, .int .u64 0, .int .i64 i4] 29)); have Yb6 := Xb5.out.below hb6; have cb6 := Yb6.facts; have lb6 := Yb6.lt; have Xb6 := hidq ((Yb6).alloc (.cells #[.bool true, .bool false, .int .u64 0, .int .u64 0, .int .u64 0, .int .u64 0, .int .u64 0, .int .u64 0, .int .i64 i4] 29)); have Ym6 := Xm5.out.below hb6; have cm6 := Ym6.cellsq; have lm6 := Ym6.lt; have Xm6 := hidq ((Ym6).alloc (.cells #[.bool true, .bool false, .int .u64 0, .int .u64 0, .int .u64 0, .int .u64 0, .int .u64 0, .int .u64 0, .int .i64 i4] 29)); have Yx36 := Xx35.out.below hb6; have cx36 := Yx36.cellsq; have lx36 := Yx36.lt; have Xx36 := hidq ((Yx36).alloc (.cells #[.bool true, .bool false, .int .u64 0, .int .u64 0, .int .u64 0, .int .u64 0, .int .u64 0, .int .u64 0, .int .i64 i4] 29)); have V36 := hidq ((V35.out.below hb6).alloc (.cells #[.bool true, .bool false, .int .u64 0, .int .u64 0, .int .u64 0, .int .u64 0, .int .u64 0, .int .u64 0, .int .i64 i4] 29)); have V46 := hidq ((ts_ofown ho6 K4.out).alloc (.cells #[.bool true, .bool false, .int .u64 0, .int .u64 0, .int .u64 0, .int .u64 0, .int .u64 0, .int .u64 0, .int .i64 i4] 29)); have Xx46 := hidq (Bx9.new w6 (M.ofT i4)); have B6 := hidq (below_one (o := (.cells #[.bool true, .bool false, .int .u64 0, .int .u64 0, .int .u64 0, .int .u64 0, .int .u64 0, .int .u64 0, .int .i64 i4] 29)) (below_trans B5.out hb6)); clear ho6; clear ca5 la5 cb5 lb5 cm5 lm5; clear hb6 Ya6 Yb6 Ym6 Yx36))
  obtain ⟨G7, HG7, HF7, HO7, HW7, ne7⟩ := clq_of w _ (fun X => Bi X w.heap.size 41 aI aJ ∧ Bi X (w.heap.size + 1) 41 bI bJ ∧ Bx9 X (w1.heap.size + 1) (M.ofT 0) ∧ Bx9 X w5.heap.size (M.ofT i3) ∧ Bx9 X w6.heap.size (M.ofT i4) ∧ Ts X (.slice ao6 L4.length cap6) L4) (fun _ _ h hb => ⟨h.1.below hb, h.2.1.below hb, h.2.2.1.below hb, h.2.2.2.1.below hb, h.2.2.2.2.1.below hb, h.2.2.2.2.2.below hb⟩) ⟨Xa6.out, Xb6.out, Xm6.out, Xx36.out, Xx46.out, V46.out⟩ B6.out
  have ga := fun c : Clq G7 => (HF7.out c).1.facts
  have gb := fun c : Clq G7 => (HF7.out c).2.1.facts
  have gm := fun c : Clq G7 => (HF7.out c).2.2.1.cellsq
  have gx3 := fun c : Clq G7 => (HF7.out c).2.2.2.1.cellsq
  have gx4 := fun c : Clq G7 => (HF7.out c).2.2.2.2.1.cellsq
  clear ca6 la6 cb6 lb6 cm6 lm6 cx36 lx36
  refine regionq (by kernel_rfl) (by kernel_rfl) HW7.out ?_
  repeat (go_big_quiet_step (fail))
  refine wpQuiet_nil ?_
  rintro _ ⟨s7, rfl⟩
  have Xa7 := hidq ((HF7.out s7).1)
  have Xb7 := hidq ((HF7.out s7).2.1)
  have Xm7 := hidq ((HF7.out s7).2.2.1)
  have Xx37 := hidq ((HF7.out s7).2.2.2.1)
  have Xx47 := hidq ((HF7.out s7).2.2.2.2.1)
  have V47 := hidq ((HF7.out s7).2.2.2.2.2)
  have B7 := hidq (HO7.out s7)
  generalize s7.W = w7 at *
  have ca7 := Xa7.out.facts
  have la7 := Xa7.out.lt
  have cb7 := Xb7.out.facts
  have lb7 := Xb7.out.lt
  have cm7 := Xm7.out.cellsq
  have lm7 := Xm7.out.lt
  have cx37 := Xx37.out.cellsq
  have lx37 := Xx37.out.lt
  have cx47 := Xx47.out.cellsq
  have lx47 := Xx47.out.lt
  clear ga gb gm gx3 gx4
  clear cx37 lx37
  clear cx47 lx47
  go_wp2_with (first | (go_at_call 13; clear T8; refine (H5.out _ _ V47.out).mono ?_; rintro e w8 ⟨v8, rfl, ho8, hb8⟩; obtain ⟨ao8, cap8, rfl, -⟩ := own_formq ho8; have Ya8 := Xa7.out.below hb8; have ca8 := Ya8.facts; have la8 := Ya8.lt; have Xa8 := hidq ((Ya8).alloc (.cells #[.bool true, .bool false, .int .u64 0, .int .u64 0, .int .u64 0, .int .u64 0, .int .u64 0, .int .u64 0, .int .i64 i5] 29)); have Yb8 := Xb7.out.below hb8; have cb8 := Yb8.facts; have lb8 := Yb8.lt; have Xb8 := hidq ((Yb8).alloc (.cells #[.bool true, .bool false, .int .u64 0, .int .u64 0, .int .u64 0, .int .u64 0, .int .u64 0, .int .u64 0, .int .i64 i5] 29)); have Ym8 := Xm7.out.below hb8; have cm8 := Ym8.cellsq; have lm8 := Ym8.lt; have Xm8 := hidq ((Ym8).alloc (.cells #[.bool true, .bool false, .int .u64 0, .int .u64 0, .int .u64 0, .int .u64 0, .int .u64 0, .int .u64 0, .int .i64 i5] 29)); have V48 := hidq ((V47.out.below hb8).alloc (.cells #[.bool true, .bool false, .int .u64 0, .int .u64 0, .int .u64 0, .int .u64 0, .int .u64 0, .int .u64 0, .int .i64 i5] 29)); have V58 := hidq ((ts_ofown ho8 K5.out).alloc (.cells #[.bool true, .bool false, .int .u64 0, .int .u64 0, .int .u64 0, .int .u64 0, .int .u64 0, .int .u64 0, .int .i64 i5] 29)); have Xx58 := hidq (Bx9.new w8 (M.ofT i5)); have B8 := hidq (below_one (o := (.cells #[.bool true, .bool false, .int .u64 0, .int .u64 0, .int .u64 0, .int .u64 0, .int .u64 0, .int .u64 0, .int .i64 i5] 29)) (below_trans B7.out hb8)); clear ho8; clear ca7 la7 cb7 lb7 cm7 lm7; clear hb8 Ya8 Yb8 Ym8) | (go_at_call 13; clear T9; refine (H6.out _ _ V58.out).mono ?_; rintro e w9 ⟨v9, rfl, ho9, hb9⟩; obtain ⟨ao9, cap9, rfl, -⟩ := own_formq ho9; have Ya9 := Xa8.out.below hb9; have ca9 := Ya9.facts; have la9 := Ya9.lt; have Xa9 := hidq ((Ya9).alloc (.cells #[.bool false, .bool false, .int .u64 0, .int .u64 0, .int .u64 0, .int .u64 0, .int .u64 0, .int .u64 0, .int .i64 0] 29)); have Yb9 := Xb8.out.below hb9; have cb9 := Yb9.facts; have lb9 := Yb9.lt; have Xb9 := hidq ((Yb9).alloc (.cells #[.bool false, .bool false, .int .u64 0, .int .u64 0, .int .u64 0, .int .u64 0, .int .u64 0, .int .u64 0, .int .i64 0] 29)); have Ym9 := Xm8.out.below hb9; have cm9 := Ym9.cellsq; have lm9 := Ym9.lt; have Xm9 := hidq ((Ym9).alloc (.cells #[.bool false, .bool false, .int .u64 0, .int .u64 0, .int .u64 0, .int .u64 0, .int .u64 0, .int .u64 0, .int .i64 0] 29)); have Yx59 := Xx58.out.below hb9; have cx59 := Yx59.cellsq; have lx59 := Yx59.lt; have Xx59 := hidq ((Yx59).alloc (.cells #[.bool false, .bool false, .int .u64 0, .int .u64 0, .int .u64 0, .int .u64 0, .int .u64 0, .int .u64 0, .int .i64 0] 29)); have V59 := hidq ((V58.out.below hb9).alloc (.cells #[.bool false, .bool false, .int .u64 0, .int .u64 0, .int .u64 0, .int .u64 0, .int .u64 0, .int .u64 0, .int .i64 0] 29)); have B9 := hidq (below_one (o := (.cells #[.bool false, .bool false, .int .u64 0, .int .u64 0, .int .u64 0, .int .u64 0, .int .u64 0, .int .u64 0, .int .i64 0] 29)) (below_trans B8.out hb9)); clear ho9; clear ca8 la8 cb8 lb8 cm8 lm8; clear hb9 Ya9 Yb9 Ym9 Yx59))
  go_ret
  exact ⟨rfl, B9.out⟩
set_option maxRecDepth 100000 in
set_option maxHeartbeats 4000000 in
theorem labelApart_7 {h k n : Int} {aI aJ bI bJ : Int} {i1 i2 i3 i4 i5 i6 : Int} {L1 L2 L3 L4 L5 L6 : List M.Tm} {q1 q2 q3 : Bool} (n0 : 0 ≤ n) (n1 : n ≤ 1048576) (h1 : M.nodeA [(1, n, 0)] h (M.ofT 0) aI = (M.ofT i1, L1, 0)) (o1 : M.Ok L1) (h2 : M.nodeA L1 h (M.ofT 0) bI = (M.ofT i2, L2, 0)) (o2 : M.Ok L2) (h3 : M.labA L2 h (M.ofT 0) aI aJ = (M.ofT i3, L3, 0)) (o3 : M.Ok L3) (h4 : M.labA L3 h (M.ofT 0) bI bJ = (M.ofT i4, L4, 0)) (o4 : M.Ok L4) (h5 : M.keyA L4 h k (M.ofT 0) aI aJ = (M.ofT i5, L5, 0)) (o5 : M.Ok L5) (h6 : M.keyA L5 h k (M.ofT 0) bI bJ = (M.ofT i6, L6, 0)) (o6 : M.Ok L6) (q1a : (i1 == i2) = q1) (q1b : (aI == bI) = q1) (q2a : (i3 == i4) = q2) (q2b : decide (((aI, aJ) : Int × Int) = (bI, bJ)) = q2) (q3a : (i5 == i6) = q3) (q3b : decide (((aI, aJ) : Int × Int) = (bI, bJ)) = q3) (fa1 : 0 ≤ aI ∧ aI ≤ 18446744073709551615) (fa2 : 0 ≤ aJ ∧ aJ ≤ 18446744073709551615) (fb1 : 0 ≤ bI ∧ bI ≤ 18446744073709551615) (fb2 : 0 ≤ bJ ∧ bJ ≤ 18446744073709551615) (w : World) (hT : Tab w) :
    Calls Tryd.prog 4 #[.int .i64 h, .int .i64 k, .int .i64 n, .agg #[.int .u64 aI, .int .u64 aJ], .agg #[.int .u64 bI, .int .u64 bJ]] w fun e w' => e = .returned (.bool true) ∧ Below w.heap.size w w' := by
  have HUSE := And.intro fa1 (And.intro fa2 (And.intro fb1 fb2))
  clear HUSE
  have Xa0 := hidq ((Bi.new w 41 aI aJ).alloc (.cells #[.int .u64 bI, .int .u64 bJ] 41))
  have Xb0 := hidq (Bi.newa w aI aJ bI bJ)
  have B0 := hidq (show Below w.heap.size w ((w.alloc (.cells #[.int .u64 aI, .int .u64 aJ] 41)).alloc (.cells #[.int .u64 bI, .int .u64 bJ] 41)) from below_one (below_one (Below.refl _ _)))
  have ca0 := Xa0.out.facts
  have cb0 := Xb0.out.facts
  have HT := hidq (hT.below B0.out)
  clear hT
  obtain ⟨A, hA⟩ : ∃ A : List M.Tm, [(1, n, 0)] = A := ⟨_, rfl⟩
  have HA := hidq (fun W => hA ▸ Ts.atom W n n0 n1 W.heap.size rfl)
  rw [hA] at h1
  have m0 : ¬ n < 0 := by omega
  have m1 : ¬ 1048576 < n := by omega
  have H1 := hidq (fun W vl (u : Ts W vl A) => ofT_litq i1 ▸ lnode_eq h1 fa1.1 fa1.2 (vl := vl) W u)
  have K1 := hidq o1
  have H2 := hidq (fun W vl (u : Ts W vl L1) => ofT_litq i2 ▸ lnode_eq h2 fb1.1 fb1.2 (vl := vl) W u)
  have K2 := hidq o2
  have H3 := hidq (fun W vl (u : Ts W vl L2) => ofT_litq i3 ▸ llab_eq h3 fa1.1 fa1.2 fa2.1 fa2.2 (vl := vl) W u)
  have K3 := hidq o3
  have H4 := hidq (fun W vl (u : Ts W vl L3) => ofT_litq i4 ▸ llab_eq h4 fb1.1 fb1.2 fb2.1 fb2.2 (vl := vl) W u)
  have K4 := hidq o4
  have H5 := hidq (fun W vl (u : Ts W vl L4) => ofT_litq i5 ▸ lkey_eq h5 fa1.1 fa1.2 fa2.1 fa2.2 (vl := vl) W u)
  have K5 := hidq o5
  have H6 := hidq (fun W vl (u : Ts W vl L5) => ofT_litq i6 ▸ lkey_eq h6 fb1.1 fb1.2 fb2.1 fb2.2 (vl := vl) W u)
  have K6 := hidq o6
  have E1 := fun w => eqTq i1 i2 w q1a
  have E2 := fun w => eqTq i3 i4 w q2a
  have S2 := fun w => eqSq aI aJ bI bJ w q2b
  have E3 := fun w => eqTq i5 i6 w q3a
  obtain rfl : q2 = q3 := q2b.symm.trans q3b
  have T2 := hidq trivial
  have T3 := hidq trivial
  have T5 := hidq trivial
  have T6 := hidq trivial
  have T8 := hidq trivial
  have T9 := hidq trivial
  have CK := hidq (show M.chkE L6 = 0 from if_pos K6.out)
  clear fa1 fa2 fb1 fb2 hA n0 n1 h1 h2 h3 h4 h5 h6 o1 o2 o3 o4 o5 o6
  go_enter Tryd.func4, Tryd.ntmps4
  go_upto_region 12 with (first | (go_at_call 7; refine (live13_any _ HT.out).mono ?_; rintro e w1 ⟨rfl, hb1⟩; have Ya1 := Xa0.out.below hb1; have ca1 := Ya1.facts; have la1 := Ya1.lt; have Xa1 := hidq (((Ya1).alloc (.cells #[.int .i64 1, .int .i64 n, .int .i64 0] 43)).alloc (.cells #[.bool true, .bool false, .int .u64 0, .int .u64 0, .int .u64 0, .int .u64 0, .int .u64 0, .int .u64 0, .int .i64 0] 29)); have Yb1 := Xb0.out.below hb1; have cb1 := Yb1.facts; have lb1 := Yb1.lt; have Xb1 := hidq (((Yb1).alloc (.cells #[.int .i64 1, .int .i64 n, .int .i64 0] 43)).alloc (.cells #[.bool true, .bool false, .int .u64 0, .int .u64 0, .int .u64 0, .int .u64 0, .int .u64 0, .int .u64 0, .int .i64 0] 29)); have Xm1 := hidq (tboxq (w1.alloc (.cells #[.int .i64 1, .int .i64 n, .int .i64 0] 43)) 0 (w1.heap.size + 1) (by simp)); have UA1 := hidq ((HA.out w1).alloc (.cells #[.bool true, .bool false, .int .u64 0, .int .u64 0, .int .u64 0, .int .u64 0, .int .u64 0, .int .u64 0, .int .i64 0] 29)); have B1 := hidq (below_one (o := (.cells #[.bool true, .bool false, .int .u64 0, .int .u64 0, .int .u64 0, .int .u64 0, .int .u64 0, .int .u64 0, .int .i64 0] 29)) (below_one (o := (.cells #[.int .i64 1, .int .i64 n, .int .i64 0] 43)) (below_trans B0.out hb1))); clear hb1 Ya1 Yb1) | (go_at_call 10; clear T2; refine (H1.out _ _ UA1.out).mono ?_; rintro e w2 ⟨v2, rfl, ho2, hb2⟩; obtain ⟨ao2, cap2, rfl, -⟩ := own_formq ho2; have Ya2 := Xa1.out.below hb2; have ca2 := Ya2.facts; have la2 := Ya2.lt; have Xa2 := hidq ((Ya2).alloc (.cells #[.bool true, .bool false, .int .u64 0, .int .u64 0, .int .u64 0, .int .u64 0, .int .u64 0, .int .u64 0, .int .i64 i1] 29)); have Yb2 := Xb1.out.below hb2; have cb2 := Yb2.facts; have lb2 := Yb2.lt; have Xb2 := hidq ((Yb2).alloc (.cells #[.bool true, .bool false, .int .u64 0, .int .u64 0, .int .u64 0, .int .u64 0, .int .u64 0, .int .u64 0, .int .i64 i1] 29)); have Ym2 := Xm1.out.below hb2; have cm2 := Ym2.cellsq; have lm2 := Ym2.lt; have Xm2 := hidq ((Ym2).alloc (.cells #[.bool true, .bool false, .int .u64 0, .int .u64 0, .int .u64 0, .int .u64 0, .int .u64 0, .int .u64 0, .int .i64 i1] 29)); have UA2 := hidq ((UA1.out.below hb2).alloc (.cells #[.bool true, .bool false, .int .u64 0, .int .u64 0, .int .u64 0, .int .u64 0, .int .u64 0, .int .u64 0, .int .i64 i1] 29)); have V12 := hidq ((ts_ofown ho2 K1.out).alloc (.cells #[.bool true, .bool false, .int .u64 0, .int .u64 0, .int .u64 0, .int .u64 0, .int .u64 0, .int .u64 0, .int .i64 i1] 29)); have Xx12 := hidq (Bx9.new w2 (M.ofT i1)); have B2 := hidq (below_one (o := (.cells #[.bool true, .bool false, .int .u64 0, .int .u64 0, .int .u64 0, .int .u64 0, .int .u64 0, .int .u64 0, .int .i64 i1] 29)) (below_trans B1.out hb2)); clear ho2; clear ca1 la1 cb1 lb1; clear hb2 Ya2 Yb2 Ym2) | (go_at_call 10; clear T3; refine (H2.out _ _ V12.out).mono ?_; rintro e w3 ⟨v3, rfl, ho3, hb3⟩; obtain ⟨ao3, cap3, rfl, -⟩ := own_formq ho3; have Ya3 := Xa2.out.below hb3; have ca3 := Ya3.facts; have la3 := Ya3.lt; have Xa3 := hidq ((Ya3).alloc (.cells #[.bool true, .bool false, .int .u64 0, .int .u64 0, .int .u64 0, .int .u64 0, .int .u64 0, .int .u64 0, .int .i64 i2] 29)); have Yb3 := Xb2.out.below hb3; have cb3 := Yb3.facts; have lb3 := Yb3.lt; have Xb3 := hidq ((Yb3).alloc (.cells #[.bool true, .bool false, .int .u64 0, .int .u64 0, .int .u64 0, .int .u64 0, .int .u64 0, .int .u64 0, .int .i64 i2] 29)); have Ym3 := Xm2.out.below hb3; have cm3 := Ym3.cellsq; have lm3 := Ym3.lt; have Xm3 := hidq ((Ym3).alloc (.cells #[.bool true, .bool false, .int .u64 0, .int .u64 0, .int .u64 0, .int .u64 0, .int .u64 0, .int .u64 0, .int .i64 i2] 29)); have Yx13 := Xx12.out.below hb3; have cx13 := Yx13.cellsq; have lx13 := Yx13.lt; have Xx13 := hidq ((Yx13).alloc (.cells #[.bool true, .bool false, .int .u64 0, .int .u64 0, .int .u64 0, .int .u64 0, .int .u64 0, .int .u64 0, .int .i64 i2] 29)); have V13 := hidq ((V12.out.below hb3).alloc (.cells #[.bool true, .bool false, .int .u64 0, .int .u64 0, .int .u64 0, .int .u64 0, .int .u64 0, .int .u64 0, .int .i64 i2] 29)); have V23 := hidq ((ts_ofown ho3 K2.out).alloc (.cells #[.bool true, .bool false, .int .u64 0, .int .u64 0, .int .u64 0, .int .u64 0, .int .u64 0, .int .u64 0, .int .i64 i2] 29)); have Xx23 := hidq (Bx9.new w3 (M.ofT i2)); have B3 := hidq (below_one (o := (.cells #[.bool true, .bool false, .int .u64 0, .int .u64 0, .int .u64 0, .int .u64 0, .int .u64 0, .int .u64 0, .int .i64 i2] 29)) (below_trans B2.out hb3)); clear ho3; clear ca2 la2 cb2 lb2 cm2 lm2; clear hb3 Ya3 Yb3 Ym3 Yx13))
  obtain ⟨G4, HG4, HF4, HO4, HW4, ne4⟩ := clq_of w _ (fun X => Bi X w.heap.size 41 aI aJ ∧ Bi X (w.heap.size + 1) 41 bI bJ ∧ Bx9 X (w1.heap.size + 1) (M.ofT 0) ∧ Bx9 X w2.heap.size (M.ofT i1) ∧ Bx9 X w3.heap.size (M.ofT i2) ∧ Ts X (.slice ao3 L2.length cap3) L2) (fun _ _ h hb => ⟨h.1.below hb, h.2.1.below hb, h.2.2.1.below hb, h.2.2.2.1.below hb, h.2.2.2.2.1.below hb, h.2.2.2.2.2.below hb⟩) ⟨Xa3.out, Xb3.out, Xm3.out, Xx13.out, Xx23.out, V23.out⟩ B3.out
  have ga := fun c : Clq G4 => (HF4.out c).1.facts
  have gb := fun c : Clq G4 => (HF4.out c).2.1.facts
  have gm := fun c : Clq G4 => (HF4.out c).2.2.1.cellsq
  have gx1 := fun c : Clq G4 => (HF4.out c).2.2.2.1.cellsq
  have gx2 := fun c : Clq G4 => (HF4.out c).2.2.2.2.1.cellsq
  clear ca3 la3 cb3 lb3 cm3 lm3 cx13 lx13
  refine regionq (by kernel_rfl) (by kernel_rfl) HW4.out ?_
  repeat (go_big_quiet_step (fail))
  refine wpQuiet_nil ?_
  rintro _ ⟨s4, rfl⟩
  have Xa4 := hidq ((HF4.out s4).1)
  have Xb4 := hidq ((HF4.out s4).2.1)
  have Xm4 := hidq ((HF4.out s4).2.2.1)
  have Xx14 := hidq ((HF4.out s4).2.2.2.1)
  have Xx24 := hidq ((HF4.out s4).2.2.2.2.1)
  have V24 := hidq ((HF4.out s4).2.2.2.2.2)
  have B4 := hidq (HO4.out s4)
  generalize s4.W = w4 at *
  have ca4 := Xa4.out.facts
  have la4 := Xa4.out.lt
  have cb4 := Xb4.out.facts
  have lb4 := Xb4.out.lt
  have cm4 := Xm4.out.cellsq
  have lm4 := Xm4.out.lt
  have cx14 := Xx14.out.cellsq
  have lx14 := Xx14.out.lt
  have cx24 := Xx24.out.cellsq
  have lx24 := Xx24.out.lt
  clear ga gb gm gx1 gx2
  clear cx14 lx14
  clear cx24 lx24
  go_upto_region 20 with (first | (go_at_call 12; clear T5; refine (H3.out _ _ V24.out).mono ?_; rintro e w5 ⟨v5, rfl, ho5, hb5⟩; obtain ⟨ao5, cap5, rfl, -⟩ := own_formq ho5; have Ya5 := Xa4.out.below hb5; have ca5 := Ya5.facts; have la5 := Ya5.lt; have Xa5 := hidq ((Ya5).alloc (.cells #[.bool true, .bool false, .int .u64 0, .int .u64 0, .int .u64 0, .int .u64 0, .int .u64 0, .int .u64 0, .int .i64 i3] 29)); have Yb5 := Xb4.out.below hb5; have cb5 := Yb5.facts; have lb5 := Yb5.lt; have Xb5 := hidq ((Yb5).alloc (.cells #[.bool true, .bool false, .int .u64 0, .int .u64 0, .int .u64 0, .int .u64 0, .int .u64 0, .int .u64 0, .int .i64 i3] 29)); have Ym5 := Xm4.out.below hb5; have cm5 := Ym5.cellsq; have lm5 := Ym5.lt; have Xm5 := hidq ((Ym5).alloc (.cells #[.bool true, .bool false, .int .u64 0, .int .u64 0, .int .u64 0, .int .u64 0, .int .u64 0, .int .u64 0, .int .i64 i3] 29)); have V25 := hidq ((V24.out.below hb5).alloc (.cells #[.bool true, .bool false, .int .u64 0, .int .u64 0, .int .u64 0, .int .u64 0, .int .u64 0, .int .u64 0, .int .i64 i3] 29)); have V35 := hidq ((ts_ofown ho5 K3.out).alloc (.cells #[.bool true, .bool false, .int .u64 0, .int .u64 0, .int .u64 0, .int .u64 0, .int .u64 0, .int .u64 0, .int .i64 i3] 29)); have Xx35 := hidq (Bx9.new w5 (M.ofT i3)); have B5 := hidq (below_one (o := (.cells #[.bool true, .bool false, .int .u64 0, .int .u64 0, .int .u64 0, .int .u64 0, .int .u64 0, .int .u64 0, .int .i64 i3] 29)) (below_trans B4.out hb5)); clear ho5; clear ca4 la4 cb4 lb4 cm4 lm4; clear hb5 Ya5 Yb5 Ym5) | (go_at_call 12; clear T6; refine (H4.out _ _ V35.out).mono ?_; rintro e w6 ⟨v6, rfl, ho6, hb6⟩; obtain ⟨ao6, cap6, rfl, -⟩ := own_formq ho6; have Ya6 := Xa5.out.below hb6; have ca6 := Ya6.facts; have la6 := Ya6.lt; have Xa6 := hidq ((Ya6).alloc (.cells #[.bool true, .bool false, .int .u64 0, .int .u64 0, .int .u64 0, .int .u64 0, .int .u64 0, .int .u64 0, .int .i64 i4] 29)); have Yb6 := Xb5.out.below hb6; have cb6 := Yb6.facts; have lb6 := Yb6.lt; have Xb6 := hidq ((Yb6).alloc (.cells #[.bool true, .bool false, .int .u64 0, .int .u64 0, .int .u64 0, .int .u64 0, .int .u64 0, .int .u64 0, .int .i64 i4] 29)); have Ym6 := Xm5.out.below hb6; have cm6 := Ym6.cellsq; have lm6 := Ym6.lt; have Xm6 := hidq ((Ym6).alloc (.cells #[.bool true, .bool false, .int .u64 0, .int .u64 0, .int .u64 0, .int .u64 0, .int .u64 0, .int .u64 0, .int .i64 i4] 29)); have Yx36 := Xx35.out.below hb6; have cx36 := Yx36.cellsq; have lx36 := Yx36.lt; have Xx36 := hidq ((Yx36).alloc (.cells #[.bool true, .bool false, .int .u64 0, .int .u64 0, .int .u64 0, .int .u64 0, .int .u64 0, .int .u64 0, .int .i64 i4] 29)); have V36 := hidq ((V35.out.below hb6).alloc (.cells #[.bool true, .bool false, .int .u64 0, .int .u64 0, .int .u64 0, .int .u64 0, .int .u64 0, .int .u64 0, .int .i64 i4] 29)); have V46 := hidq ((ts_ofown ho6 K4.out).alloc (.cells #[.bool true, .bool false, .int .u64 0, .int .u64 0, .int .u64 0, .int .u64 0, .int .u64 0, .int .u64 0, .int .i64 i4] 29)); have Xx46 := hidq (Bx9.new w6 (M.ofT i4)); have B6 := hidq (below_one (o := (.cells #[.bool true, .bool false, .int .u64 0, .int .u64 0, .int .u64 0, .int .u64 0, .int .u64 0, .int .u64 0, .int .i64 i4] 29)) (below_trans B5.out hb6)); clear ho6; clear ca5 la5 cb5 lb5 cm5 lm5; clear hb6 Ya6 Yb6 Ym6 Yx36))
  obtain ⟨G7, HG7, HF7, HO7, HW7, ne7⟩ := clq_of w _ (fun X => Bi X w.heap.size 41 aI aJ ∧ Bi X (w.heap.size + 1) 41 bI bJ ∧ Bx9 X (w1.heap.size + 1) (M.ofT 0) ∧ Bx9 X w5.heap.size (M.ofT i3) ∧ Bx9 X w6.heap.size (M.ofT i4) ∧ Ts X (.slice ao6 L4.length cap6) L4) (fun _ _ h hb => ⟨h.1.below hb, h.2.1.below hb, h.2.2.1.below hb, h.2.2.2.1.below hb, h.2.2.2.2.1.below hb, h.2.2.2.2.2.below hb⟩) ⟨Xa6.out, Xb6.out, Xm6.out, Xx36.out, Xx46.out, V46.out⟩ B6.out
  have ga := fun c : Clq G7 => (HF7.out c).1.facts
  have gb := fun c : Clq G7 => (HF7.out c).2.1.facts
  have gm := fun c : Clq G7 => (HF7.out c).2.2.1.cellsq
  have gx3 := fun c : Clq G7 => (HF7.out c).2.2.2.1.cellsq
  have gx4 := fun c : Clq G7 => (HF7.out c).2.2.2.2.1.cellsq
  clear ca6 la6 cb6 lb6 cm6 lm6 cx36 lx36
  refine regionq (by kernel_rfl) (by kernel_rfl) HW7.out ?_
  repeat (go_big_quiet_step (fail))
  refine wpQuiet_nil ?_
  rintro _ ⟨s7, rfl⟩
  have Xa7 := hidq ((HF7.out s7).1)
  have Xb7 := hidq ((HF7.out s7).2.1)
  have Xm7 := hidq ((HF7.out s7).2.2.1)
  have Xx37 := hidq ((HF7.out s7).2.2.2.1)
  have Xx47 := hidq ((HF7.out s7).2.2.2.2.1)
  have V47 := hidq ((HF7.out s7).2.2.2.2.2)
  have B7 := hidq (HO7.out s7)
  generalize s7.W = w7 at *
  have ca7 := Xa7.out.facts
  have la7 := Xa7.out.lt
  have cb7 := Xb7.out.facts
  have lb7 := Xb7.out.lt
  have cm7 := Xm7.out.cellsq
  have lm7 := Xm7.out.lt
  have cx37 := Xx37.out.cellsq
  have lx37 := Xx37.out.lt
  have cx47 := Xx47.out.cellsq
  have lx47 := Xx47.out.lt
  clear ga gb gm gx3 gx4
  clear cx37 lx37
  clear cx47 lx47
  go_upto_region 28 with (first | (go_at_call 13; clear T8; refine (H5.out _ _ V47.out).mono ?_; rintro e w8 ⟨v8, rfl, ho8, hb8⟩; obtain ⟨ao8, cap8, rfl, -⟩ := own_formq ho8; have Ya8 := Xa7.out.below hb8; have ca8 := Ya8.facts; have la8 := Ya8.lt; have Xa8 := hidq ((Ya8).alloc (.cells #[.bool true, .bool false, .int .u64 0, .int .u64 0, .int .u64 0, .int .u64 0, .int .u64 0, .int .u64 0, .int .i64 i5] 29)); have Yb8 := Xb7.out.below hb8; have cb8 := Yb8.facts; have lb8 := Yb8.lt; have Xb8 := hidq ((Yb8).alloc (.cells #[.bool true, .bool false, .int .u64 0, .int .u64 0, .int .u64 0, .int .u64 0, .int .u64 0, .int .u64 0, .int .i64 i5] 29)); have Ym8 := Xm7.out.below hb8; have cm8 := Ym8.cellsq; have lm8 := Ym8.lt; have Xm8 := hidq ((Ym8).alloc (.cells #[.bool true, .bool false, .int .u64 0, .int .u64 0, .int .u64 0, .int .u64 0, .int .u64 0, .int .u64 0, .int .i64 i5] 29)); have V48 := hidq ((V47.out.below hb8).alloc (.cells #[.bool true, .bool false, .int .u64 0, .int .u64 0, .int .u64 0, .int .u64 0, .int .u64 0, .int .u64 0, .int .i64 i5] 29)); have V58 := hidq ((ts_ofown ho8 K5.out).alloc (.cells #[.bool true, .bool false, .int .u64 0, .int .u64 0, .int .u64 0, .int .u64 0, .int .u64 0, .int .u64 0, .int .i64 i5] 29)); have Xx58 := hidq (Bx9.new w8 (M.ofT i5)); have B8 := hidq (below_one (o := (.cells #[.bool true, .bool false, .int .u64 0, .int .u64 0, .int .u64 0, .int .u64 0, .int .u64 0, .int .u64 0, .int .i64 i5] 29)) (below_trans B7.out hb8)); clear ho8; clear ca7 la7 cb7 lb7 cm7 lm7; clear hb8 Ya8 Yb8 Ym8) | (go_at_call 13; clear T9; refine (H6.out _ _ V58.out).mono ?_; rintro e w9 ⟨v9, rfl, ho9, hb9⟩; obtain ⟨ao9, cap9, rfl, -⟩ := own_formq ho9; have Ya9 := Xa8.out.below hb9; have ca9 := Ya9.facts; have la9 := Ya9.lt; have Xa9 := hidq ((Ya9).alloc (.cells #[.bool true, .bool false, .int .u64 0, .int .u64 0, .int .u64 0, .int .u64 0, .int .u64 0, .int .u64 0, .int .i64 i6] 29)); have Yb9 := Xb8.out.below hb9; have cb9 := Yb9.facts; have lb9 := Yb9.lt; have Xb9 := hidq ((Yb9).alloc (.cells #[.bool true, .bool false, .int .u64 0, .int .u64 0, .int .u64 0, .int .u64 0, .int .u64 0, .int .u64 0, .int .i64 i6] 29)); have Ym9 := Xm8.out.below hb9; have cm9 := Ym9.cellsq; have lm9 := Ym9.lt; have Xm9 := hidq ((Ym9).alloc (.cells #[.bool true, .bool false, .int .u64 0, .int .u64 0, .int .u64 0, .int .u64 0, .int .u64 0, .int .u64 0, .int .i64 i6] 29)); have Yx59 := Xx58.out.below hb9; have cx59 := Yx59.cellsq; have lx59 := Yx59.lt; have Xx59 := hidq ((Yx59).alloc (.cells #[.bool true, .bool false, .int .u64 0, .int .u64 0, .int .u64 0, .int .u64 0, .int .u64 0, .int .u64 0, .int .i64 i6] 29)); have V59 := hidq ((V58.out.below hb9).alloc (.cells #[.bool true, .bool false, .int .u64 0, .int .u64 0, .int .u64 0, .int .u64 0, .int .u64 0, .int .u64 0, .int .i64 i6] 29)); have V69 := hidq ((ts_ofown ho9 K6.out).alloc (.cells #[.bool true, .bool false, .int .u64 0, .int .u64 0, .int .u64 0, .int .u64 0, .int .u64 0, .int .u64 0, .int .i64 i6] 29)); have Xx69 := hidq (Bx9.new w9 (M.ofT i6)); have B9 := hidq (below_one (o := (.cells #[.bool true, .bool false, .int .u64 0, .int .u64 0, .int .u64 0, .int .u64 0, .int .u64 0, .int .u64 0, .int .i64 i6] 29)) (below_trans B8.out hb9)); clear ho9; clear ca8 la8 cb8 lb8 cm8 lm8; clear hb9 Ya9 Yb9 Ym9 Yx59))
  obtain ⟨G10, HG10, HF10, HO10, HW10, ne10⟩ := clq_of w _ (fun X => Bi X w.heap.size 41 aI aJ ∧ Bi X (w.heap.size + 1) 41 bI bJ ∧ Bx9 X w8.heap.size (M.ofT i5) ∧ Bx9 X w9.heap.size (M.ofT i6) ∧ Ts X (.slice ao9 L6.length cap9) L6) (fun _ _ h hb => ⟨h.1.below hb, h.2.1.below hb, h.2.2.1.below hb, h.2.2.2.1.below hb, h.2.2.2.2.below hb⟩) ⟨Xa9.out, Xb9.out, Xx59.out, Xx69.out, V69.out⟩ B9.out
  have ga := fun c : Clq G10 => (HF10.out c).1.facts
  have gb := fun c : Clq G10 => (HF10.out c).2.1.facts
  have gx5 := fun c : Clq G10 => (HF10.out c).2.2.1.cellsq
  have gx6 := fun c : Clq G10 => (HF10.out c).2.2.2.1.cellsq
  clear ca9 la9 cb9 lb9 cm9 lm9 cx59 lx59
  refine regionq (by kernel_rfl) (by kernel_rfl) HW10.out ?_
  repeat (go_big_quiet_step (first | (go_at_call 14; exact quietq HG10.out _ (check_eq CK.out _ (HF10.out _).2.2.2.2))))
  refine wpQuiet_nil ?_
  rintro _ ⟨s10, rfl⟩
  have Xa10 := hidq ((HF10.out s10).1)
  have Xb10 := hidq ((HF10.out s10).2.1)
  have Xx510 := hidq ((HF10.out s10).2.2.1)
  have Xx610 := hidq ((HF10.out s10).2.2.2.1)
  have V610 := hidq ((HF10.out s10).2.2.2.2)
  have B10 := hidq (HO10.out s10)
  generalize s10.W = w10 at *
  have ca10 := Xa10.out.facts
  have la10 := Xa10.out.lt
  have cb10 := Xb10.out.facts
  have lb10 := Xb10.out.lt
  have cx510 := Xx510.out.cellsq
  have lx510 := Xx510.out.lt
  have cx610 := Xx610.out.cellsq
  have lx610 := Xx610.out.lt
  clear ga gb gx5 gx6
  go_wp2
  go_ret
  exact ⟨rfl, B10.out⟩
set_option maxRecDepth 100000 in
theorem labelApart_walk (h k n : Int) (a b : Int × Int) (w : World) (hT : Tab w) (_h0 : -9223372036854775808 ≤ h) (_h1 : h ≤ 9223372036854775807) (_k0 : -9223372036854775808 ≤ k) (_k1 : k ≤ 9223372036854775807) (_n0 : -9223372036854775808 ≤ n) (_n1 : n ≤ 9223372036854775807) (fa : M.fitS a) (fb : M.fitS b) :
    Calls Tryd.prog 4 #[.int .i64 h, .int .i64 k, .int .i64 n, .agg #[.int .u64 a.1, .int .u64 a.2], .agg #[.int .u64 b.1, .int .u64 b.2]] w fun e w' => e = .returned (.bool true) ∧ Below w.heap.size w w' := by
  obtain ⟨aI, aJ⟩ := a
  obtain ⟨bI, bJ⟩ := b
  obtain ⟨fa1, fa2⟩ := fa
  obtain ⟨fb1, fb2⟩ := fb
  dsimp only at fa1 fa2 fb1 fb2 ⊢
  by_cases hr : 0 ≤ n ∧ n ≤ 1048576
  · obtain ⟨n0, n1⟩ := hr
    have oA := M.opn_atom n0 n1
    obtain ⟨⟨x1, L1, e1⟩, h1⟩ : ∃ r, M.nodeA [(1, n, 0)] h (M.ofT 0) aI = r := ⟨_, rfl⟩
    by_cases z1 : e1 = 0
    · subst z1
      obtain ⟨p1, -, w1⟩ := M.node_err0 h1
      obtain ⟨i1, rfl, a1, X1, k1, b1, c1⟩ := M.on_made oA M.opn3_path w1
      obtain ⟨⟨x2, L2, e2⟩, h2⟩ : ∃ r, M.nodeA L1 h (M.ofT 0) bI = r := ⟨_, rfl⟩
      by_cases z2 : e2 = 0
      · subst z2
        obtain ⟨p2, -, w2⟩ := M.node_err0 h2
        obtain ⟨i2, rfl, a2, X2, k2, b2, c2⟩ := M.on_made b1 M.opn3_path w2
        obtain ⟨a1, c1⟩ := M.on_later X2 k2 a1 c1
        have q1 : (i1 == i2) = (aI == bI) := by
          rw [M.apartT k2 (X1.trans X2) M.opn3_path M.opn3_path a1 a2 c1 c2, Bool.eq_iff_iff, decide_eq_true_iff, beq_iff_eq]
          exact M.node_inj p1 p2
        obtain ⟨⟨x3, L3, e3⟩, h3⟩ : ∃ r, M.labA L2 h (M.ofT 0) aI aJ = r := ⟨_, rfl⟩
        by_cases z3 : e3 = 0
        · subst z3
          obtain ⟨p3, -, w3⟩ := M.lab_err0 h3
          obtain ⟨i3, rfl, a3, X3, k3, b3, c3⟩ := M.on_made b2 M.opn3_lab w3
          obtain ⟨⟨x4, L4, e4⟩, h4⟩ : ∃ r, M.labA L3 h (M.ofT 0) bI bJ = r := ⟨_, rfl⟩
          by_cases z4 : e4 = 0
          · subst z4
            obtain ⟨p4, -, w4⟩ := M.lab_err0 h4
            obtain ⟨i4, rfl, a4, X4, k4, b4, c4⟩ := M.on_made b3 M.opn3_lab w4
            obtain ⟨a3, c3⟩ := M.on_later X4 k4 a3 c3
            have q2 : (i3 == i4) = decide (((aI, aJ) : Int × Int) = (bI, bJ)) := by
              rw [M.apartT k4 (((X1.trans X2).trans X3).trans X4) M.opn3_lab M.opn3_lab a3 a4 c3 c4, Bool.eq_iff_iff, decide_eq_true_iff, decide_eq_true_iff, Prod.mk.injEq]
              exact M.lab_inj p3 p4
            obtain ⟨⟨x5, L5, e5⟩, h5⟩ : ∃ r, M.keyA L4 h k (M.ofT 0) aI aJ = r := ⟨_, rfl⟩
            by_cases z5 : e5 = 0
            · subst z5
              obtain ⟨p5, -, -, w5⟩ := M.key_err0 h5
              obtain ⟨i5, rfl, a5, X5, k5, b5, c5⟩ := M.on_made b4 M.opn3_key w5
              obtain ⟨⟨x6, L6, e6⟩, h6⟩ : ∃ r, M.keyA L5 h k (M.ofT 0) bI bJ = r := ⟨_, rfl⟩
              by_cases z6 : e6 = 0
              · subst z6
                obtain ⟨p6, -, -, w6⟩ := M.key_err0 h6
                obtain ⟨i6, rfl, a6, X6, k6, b6, c6⟩ := M.on_made b5 M.opn3_key w6
                obtain ⟨a5, c5⟩ := M.on_later X6 k6 a5 c5
                have q3 : (i5 == i6) = decide (((aI, aJ) : Int × Int) = (bI, bJ)) := by
                  rw [M.apartT k6 (((((X1.trans X2).trans X3).trans X4).trans X5).trans X6) M.opn3_key M.opn3_key a5 a6 c5 c6, Bool.eq_iff_iff, decide_eq_true_iff, decide_eq_true_iff, Prod.mk.injEq]
                  exact M.key_inj p5 p6
                exact labelApart_7 n0 n1 h1 k1 h2 k2 h3 k3 h4 k4 h5 k5 h6 k6 q1 rfl q2 rfl q3 rfl fa1 fa2 fb1 fb2 w hT
              · obtain rfl := M.key_zero h6 z6
                exact labelApart_6 n0 n1 h1 k1 h2 k2 h3 k3 h4 k4 h5 k5 h6 z6 q1 rfl q2 rfl fa1 fa2 fb1 fb2 w hT
            · obtain rfl := M.key_zero h5 z5
              exact labelApart_5 n0 n1 h1 k1 h2 k2 h3 k3 h4 k4 h5 z5 q1 rfl q2 rfl fa1 fa2 fb1 fb2 w hT
          · obtain rfl := M.lab_zero h4 z4
            exact labelApart_4 n0 n1 h1 k1 h2 k2 h3 k3 h4 z4 q1 rfl fa1 fa2 fb1 fb2 w hT
        · obtain rfl := M.lab_zero h3 z3
          exact labelApart_3 n0 n1 h1 k1 h2 k2 h3 z3 q1 rfl fa1 fa2 fb1 fb2 w hT
      · obtain rfl := M.node_zero h2 z2
        exact labelApart_2 n0 n1 h1 k1 h2 z2 fa1 fa2 fb1 fb2 w hT
    · obtain rfl := M.node_zero h1 z1
      exact labelApart_1 n0 n1 h1 z1 fa1 fa2 fb1 fb2 w hT
  · exact labelApart_out (k := k) (by omega) fa1 fa2 fb1 fb2 w hT
end Go.Proofs.YtomhccendbnamaaDoor
