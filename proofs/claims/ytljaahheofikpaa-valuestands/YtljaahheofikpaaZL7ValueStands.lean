/-
  The law ValueStands: its walk. Conditions: the slices hold terms and blocks; whole numbers are such.
-/
import Derived.Test.YtljaahheofikpaaZL7S000
import Derived.Test.YtljaahheofikpaaZL7S001
import Derived.Test.YtljaahheofikpaaZL7S010
import Derived.Test.YtljaahheofikpaaZL7S100
import Derived.Test.YtljaahheofikpaaZL7S101
import Derived.Test.YtljaahheofikpaaZL7S110
namespace Go.Proofs.Ytljaahheofikpaa
open Go.RowKit
set_option maxRecDepth 100000 in
set_option maxHeartbeats 8000000 in
theorem stands_err {A : List M.Tm} {T : List M.Blk} {i k p : Int} {x y : M.Val} {e f : Int} (hl : A.length ≤ 60) (ht : T.length ≤ 300) (he : M.evalE A i T.length = e) (hf : M.evalE A k T.length = f) (hx : M.evalV A i T = x) (hy : M.evalV A k T = y) (hef : ¬ e = 0 ∨ e = 0 ∧ ¬ f = 0) {vl va : Value} (w : World) (u : Ts w vl A) (ua : Bks w va T) :
    Calls Try.prog 5 #[vl, .int .i64 i, .int .i64 k, .int .i64 p, va] w fun e w' => e = .returned (.bool true) ∧ Below w.heap.size w w' := by
  obtain ⟨ao, cap, rfl, p1, p2, _⟩ := u.form
  obtain ⟨ab, cb, rfl, s1, s2, _⟩ := ua.form
  have CX := hidq (fun W (u : Ts W (.slice ao A.length cap) A) (ua : Bks W (.slice ab T.length cb) T) => eval7_eq hx he W u ua)
  have CY := hidq (fun W (u : Ts W (.slice ao A.length cap) A) (ua : Bks W (.slice ab T.length cb) T) => eval7_eq hy hf W u ua)
  have T2 := hidq trivial
  have T3 := hidq trivial
  have hli : ¬ (60 : Int) < A.length := by omega
  have hti : ¬ (300 : Int) < T.length := by omega
  clear he hf hx hy hl ht
  generalize A.length = n at *
  generalize T.length = nt at *
  have key : (¬ e = 0 ∧ (e == 0) = false) ∨ (e = 0 ∧ ¬ f = 0 ∧ (f == 0) = false) := by
    rcases hef with h | ⟨h, h'⟩
    · exact .inl ⟨h, by simpa using h⟩
    · exact .inr ⟨h, h', by simpa using h'⟩
  clear hef
  rcases key with ⟨h0, h0b⟩ | ⟨rfl, h0, h0b⟩
  all_goals go_enter Try.func5, Try.ntmps5
  all_goals go_wp2_with (first | (go_at_call 9; refine (live7_any _).mono ?_; rintro e w1 ⟨rfl, hb1⟩; have Xa1 := hidq ((tbox w1 i).alloc (.cells #[.bool true, .bool false, .int .u64 0, .int .u64 0, .int .u64 0, .int .u64 0, .int .u64 0, .int .u64 0, .int .i64 k] 29)); have Xb1 := hidq (tbox (w1.alloc (.cells #[.bool true, .bool false, .int .u64 0, .int .u64 0, .int .u64 0, .int .u64 0, .int .u64 0, .int .u64 0, .int .i64 i] 29)) k); rw [World.size_alloc] at Xb1; have UA1 := hidq (((u.below hb1).alloc (.cells #[.bool true, .bool false, .int .u64 0, .int .u64 0, .int .u64 0, .int .u64 0, .int .u64 0, .int .u64 0, .int .i64 i] 29)).alloc (.cells #[.bool true, .bool false, .int .u64 0, .int .u64 0, .int .u64 0, .int .u64 0, .int .u64 0, .int .u64 0, .int .i64 k] 29)); have KT1 := hidq (((ua.below hb1).alloc (.cells #[.bool true, .bool false, .int .u64 0, .int .u64 0, .int .u64 0, .int .u64 0, .int .u64 0, .int .u64 0, .int .i64 i] 29)).alloc (.cells #[.bool true, .bool false, .int .u64 0, .int .u64 0, .int .u64 0, .int .u64 0, .int .u64 0, .int .u64 0, .int .i64 k] 29)); have B1 := hidq (below_one (o := (.cells #[.bool true, .bool false, .int .u64 0, .int .u64 0, .int .u64 0, .int .u64 0, .int .u64 0, .int .u64 0, .int .i64 k] 29)) (below_one (o := (.cells #[.bool true, .bool false, .int .u64 0, .int .u64 0, .int .u64 0, .int .u64 0, .int .u64 0, .int .u64 0, .int .i64 i] 29)) hb1)); clear hb1) | (go_at_call 21; clear T2; refine (CX.out _ UA1.out KT1.out).mono ?_; rintro e w2 ⟨rfl, hb2⟩; have Ya2 := Xa1.out.below hb2; have ca2 := Ya2.cellsT; have la2 := Ya2.lt; have Xa2 := hidq ((Ya2).alloc (.cells #[.bool x.1, .bool x.2.1, .int .u64 (M.nu x.2.2.1.1), .int .u64 (M.nu x.2.2.1.2), .int .u64 (M.nu x.2.2.2.1.1.1), .int .u64 (M.nu x.2.2.2.1.1.2), .int .u64 (M.nu x.2.2.2.1.2.1), .int .u64 (M.nu x.2.2.2.1.2.2), .int .i64 x.2.2.2.2] 29)); have Yb2 := Xb1.out.below hb2; have cb2 := Yb2.cellsT; have lb2 := Yb2.lt; have Xb2 := hidq ((Yb2).alloc (.cells #[.bool x.1, .bool x.2.1, .int .u64 (M.nu x.2.2.1.1), .int .u64 (M.nu x.2.2.1.2), .int .u64 (M.nu x.2.2.2.1.1.1), .int .u64 (M.nu x.2.2.2.1.1.2), .int .u64 (M.nu x.2.2.2.1.2.1), .int .u64 (M.nu x.2.2.2.1.2.2), .int .i64 x.2.2.2.2] 29)); have UA2 := hidq ((UA1.out.below hb2).alloc (.cells #[.bool x.1, .bool x.2.1, .int .u64 (M.nu x.2.2.1.1), .int .u64 (M.nu x.2.2.1.2), .int .u64 (M.nu x.2.2.2.1.1.1), .int .u64 (M.nu x.2.2.2.1.1.2), .int .u64 (M.nu x.2.2.2.1.2.1), .int .u64 (M.nu x.2.2.2.1.2.2), .int .i64 x.2.2.2.2] 29)); have KT2 := hidq ((KT1.out.below hb2).alloc (.cells #[.bool x.1, .bool x.2.1, .int .u64 (M.nu x.2.2.1.1), .int .u64 (M.nu x.2.2.1.2), .int .u64 (M.nu x.2.2.2.1.1.1), .int .u64 (M.nu x.2.2.2.1.1.2), .int .u64 (M.nu x.2.2.2.1.2.1), .int .u64 (M.nu x.2.2.2.1.2.2), .int .i64 x.2.2.2.2] 29)); have Xx2 := hidq (Bx9.new w2 x); have B2 := hidq (below_one (o := (.cells #[.bool x.1, .bool x.2.1, .int .u64 (M.nu x.2.2.1.1), .int .u64 (M.nu x.2.2.1.2), .int .u64 (M.nu x.2.2.2.1.1.1), .int .u64 (M.nu x.2.2.2.1.1.2), .int .u64 (M.nu x.2.2.2.1.2.1), .int .u64 (M.nu x.2.2.2.1.2.2), .int .i64 x.2.2.2.2] 29)) (below_trans B1.out hb2)); clear hb2 Ya2 Yb2) | (go_at_call 21; clear T3; refine (CY.out _ UA2.out KT2.out).mono ?_; rintro e w3 ⟨rfl, hb3⟩; have Ya3 := Xa2.out.below hb3; have ca3 := Ya3.cellsT; have la3 := Ya3.lt; have Xa3 := hidq ((Ya3).alloc (.cells #[.bool y.1, .bool y.2.1, .int .u64 (M.nu y.2.2.1.1), .int .u64 (M.nu y.2.2.1.2), .int .u64 (M.nu y.2.2.2.1.1.1), .int .u64 (M.nu y.2.2.2.1.1.2), .int .u64 (M.nu y.2.2.2.1.2.1), .int .u64 (M.nu y.2.2.2.1.2.2), .int .i64 y.2.2.2.2] 29)); have Yb3 := Xb2.out.below hb3; have cb3 := Yb3.cellsT; have lb3 := Yb3.lt; have Xb3 := hidq ((Yb3).alloc (.cells #[.bool y.1, .bool y.2.1, .int .u64 (M.nu y.2.2.1.1), .int .u64 (M.nu y.2.2.1.2), .int .u64 (M.nu y.2.2.2.1.1.1), .int .u64 (M.nu y.2.2.2.1.1.2), .int .u64 (M.nu y.2.2.2.1.2.1), .int .u64 (M.nu y.2.2.2.1.2.2), .int .i64 y.2.2.2.2] 29)); have Yx3 := Xx2.out.below hb3; have cx3 := Yx3.cells; have lx3 := Yx3.lt; have Xx3 := hidq ((Yx3).alloc (.cells #[.bool y.1, .bool y.2.1, .int .u64 (M.nu y.2.2.1.1), .int .u64 (M.nu y.2.2.1.2), .int .u64 (M.nu y.2.2.2.1.1.1), .int .u64 (M.nu y.2.2.2.1.1.2), .int .u64 (M.nu y.2.2.2.1.2.1), .int .u64 (M.nu y.2.2.2.1.2.2), .int .i64 y.2.2.2.2] 29)); have UA3 := hidq ((UA2.out.below hb3).alloc (.cells #[.bool y.1, .bool y.2.1, .int .u64 (M.nu y.2.2.1.1), .int .u64 (M.nu y.2.2.1.2), .int .u64 (M.nu y.2.2.2.1.1.1), .int .u64 (M.nu y.2.2.2.1.1.2), .int .u64 (M.nu y.2.2.2.1.2.1), .int .u64 (M.nu y.2.2.2.1.2.2), .int .i64 y.2.2.2.2] 29)); have KT3 := hidq ((KT2.out.below hb3).alloc (.cells #[.bool y.1, .bool y.2.1, .int .u64 (M.nu y.2.2.1.1), .int .u64 (M.nu y.2.2.1.2), .int .u64 (M.nu y.2.2.2.1.1.1), .int .u64 (M.nu y.2.2.2.1.1.2), .int .u64 (M.nu y.2.2.2.1.2.1), .int .u64 (M.nu y.2.2.2.1.2.2), .int .i64 y.2.2.2.2] 29)); have Xy3 := hidq (Bx9.new w3 y); have B3 := hidq (below_one (o := (.cells #[.bool y.1, .bool y.2.1, .int .u64 (M.nu y.2.2.1.1), .int .u64 (M.nu y.2.2.1.2), .int .u64 (M.nu y.2.2.2.1.1.1), .int .u64 (M.nu y.2.2.2.1.1.2), .int .u64 (M.nu y.2.2.2.1.2.1), .int .u64 (M.nu y.2.2.2.1.2.2), .int .i64 y.2.2.2.2] 29)) (below_trans B2.out hb3)); clear hb3 Ya3 Yb3 Yx3; clear ca2 la2 cb2 lb2))
  all_goals go_ret
  all_goals exact ⟨rfl, B3.out⟩
set_option maxRecDepth 100000 in
set_option maxHeartbeats 8000000 in
theorem stands_long {A : List M.Tm} {T : List M.Blk} {i k p : Int} (hl : ¬ A.length ≤ 60 ∨ A.length ≤ 60 ∧ ¬ T.length ≤ 300) {vl va : Value} (w : World) (u : Ts w vl A) (ua : Bks w va T) :
    Calls Try.prog 5 #[vl, .int .i64 i, .int .i64 k, .int .i64 p, va] w fun e w' => e = .returned (.bool true) ∧ Below w.heap.size w w' := by
  obtain ⟨ao, cap, rfl, p1, p2, _⟩ := u.form
  obtain ⟨ab, cb, rfl, s1, s2, _⟩ := ua.form
  clear u ua
  have key : (60 : Int) < A.length ∨ ¬ (60 : Int) < A.length ∧ (300 : Int) < T.length := by omega
  clear hl
  generalize A.length = n at *
  generalize T.length = nt at *
  rcases key with h0 | ⟨h0, h1⟩
  all_goals go_enter Try.func5, Try.ntmps5
  all_goals go_wp2_with (first | (go_at_call 9; refine (live7_any _).mono ?_; rintro e w1 ⟨rfl, hb1⟩; have B1 := hidq hb1; clear hb1))
  all_goals go_ret
  all_goals exact ⟨rfl, B1.out⟩
theorem valueStands_walk (A : List M.Tm) (vl : Value) (i k p : Int) (T : List M.Blk) (va : Value) (w : World) (u : Ts w vl A) (i1 : -9223372036854775808 ≤ i) (i2 : i ≤ 9223372036854775807) (k1 : -9223372036854775808 ≤ k) (k2 : k ≤ 9223372036854775807) (_ : -9223372036854775808 ≤ p) (_ : p ≤ 9223372036854775807) (ua : Bks w va T) :
    Calls Try.prog 5 #[vl, .int .i64 i, .int .i64 k, .int .i64 p, va] w fun e w' => e = .returned (.bool true) ∧ Below w.heap.size w w' := by
  by_cases hl : A.length ≤ 60
  · by_cases ht : T.length ≤ 300
    · by_cases he : M.evalE A i T.length = 0
      · by_cases hf : M.evalE A k T.length = 0
        · have fi : M.fitI i := fit_lit i1 i2
          have fk : M.fitI k := fit_lit k1 k2
          obtain ⟨⟨px, LP, g1⟩, hp⟩ : ∃ z, M.partA A (M.ofT i) p = z := ⟨_, rfl⟩
          obtain ⟨⟨wx, LW, g2⟩, hw⟩ : ∃ z, M.wrapA A (M.ofT i) (M.ofT k) = z := ⟨_, rfl⟩
          obtain ⟨⟨ux, g3⟩, hu⟩ : ∃ z, M.unA A (M.ofT i) (M.ofT k) = z := ⟨_, rfl⟩
          have hx : g2 = 0 → ¬ g3 = 0 := fun h2 h3 => by
            have e2 := (M.wrap_err0 (A := A) (k := M.ofT i) (v := M.ofT k) (by rw [hw]; exact h2)).2.2.2
            have e3 := (M.un_out (A := A) (k := M.ofT i) (v := M.ofT k) (.inl (by rw [hu]; exact h3))).2.2.2
            rw [e2] at e3; cases e3
          by_cases h1 : g1 = 0
          · by_cases h2 : g2 = 0
            · exact stands_110 fi fk hl ht he hf rfl rfl hp hw hu h1 h2 (hx h2) w u ua
            · by_cases h3 : g3 = 0
              · exact stands_101 fi fk hl ht he hf rfl rfl hp hw hu h1 h2 h3 w u ua
              · exact stands_100 fi fk hl ht he hf rfl rfl hp hw hu h1 h2 h3 w u ua
          · by_cases h2 : g2 = 0
            · exact stands_010 fi fk hl ht he hf rfl rfl hp hw hu h1 h2 (hx h2) w u ua
            · by_cases h3 : g3 = 0
              · exact stands_001 fi fk hl ht he hf rfl rfl hp hw hu h1 h2 h3 w u ua
              · exact stands_000 fi fk hl ht he hf rfl rfl hp hw hu h1 h2 h3 w u ua
        · exact stands_err hl ht rfl rfl rfl rfl (.inr ⟨he, hf⟩) w u ua
      · exact stands_err hl ht rfl rfl rfl rfl (.inl he) w u ua
    · exact stands_long (.inr ⟨hl, ht⟩) w u ua
  · exact stands_long (.inl hl) w u ua
end Go.Proofs.Ytljaahheofikpaa
