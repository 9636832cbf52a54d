/-
  The law ValueEvals: its walk. Condition: the slices hold terms, and blocks.
-/
import Derived.Test.YthbacijbgjmigaaZD7
import Derived.Test.YthbacijbgjmigaaZE10
import Derived.Test.YthbacijbgjmigaaZE6
namespace Go.Proofs.Ythbacijbgjmigaa
open Go.RowKit
theorem reval_any {A : List M.Tm} {i : Int} {T : List M.Blk} {x : M.Val} {n : Int} (hx : M.evalV A i T = x) (hn : M.evalE A i T.length = n) {vl va : Value} (w : World) (u : Ts w vl A) (ua : Bks w va T) :
    Calls Try.prog 6 #[vl, .int .i64 i, va] w fun e w' => e = .returned (.tuple #[(.agg #[.bool x.1, .bool x.2.1, .int .u64 (M.nu x.2.2.1.1), .int .u64 (M.nu x.2.2.1.2), .int .u64 (M.nu x.2.2.2.1.1.1), .int .u64 (M.nu x.2.2.2.1.1.2), .int .u64 (M.nu x.2.2.2.1.2.1), .int .u64 (M.nu x.2.2.2.1.2.2), .int .i64 x.2.2.2.2]), .int .i64 n]) ∧ Below w.heap.size w w' := by
  by_cases hd : M.deepE A i = 0
  · exact reval_ok hd hx hn w u ua
  · have he : M.evalE A i T.length = M.deepE A i := by unfold M.evalE; rw [if_neg hd]
    have hz : M.evalV A i T = M.zV := by unfold M.evalV; rw [he, if_neg hd]
    subst hx hn
    rw [hz, he]
    exact reval_no rfl hd w u ua
set_option maxRecDepth 100000 in
set_option maxHeartbeats 8000000 in
theorem evals_in {A : List M.Tm} {i : Int} {T : List M.Blk} {x : M.Val} {n : Int} (hl : A.length ≤ 60) (ht : T.length ≤ 300) (hx : M.evalV A i T = x) (hn : M.evalE A i T.length = n) {vl va : Value} (w : World) (u : Ts w vl A) (ua : Bks w va T) :
    Calls Try.prog 3 #[vl, .int .i64 i, va] w fun e w' => e = .returned (.bool true) ∧ Below w.heap.size w w' := by
  have heq := eqVa
  obtain ⟨ao, cap, rfl, -⟩ := u.form
  obtain ⟨ab, cb, rfl, -⟩ := ua.form
  have C1 := hidq (fun W (u : Ts W (.slice ao A.length cap) A) (ua : Bks W (.slice ab T.length cb) T) => eval7_eq hx hn W u ua)
  have C2 := hidq (fun W (u : Ts W (.slice ao A.length cap) A) (ua : Bks W (.slice ab T.length cb) T) => reval_any hx hn W u ua)
  have U0 := hidq u
  have K0 := hidq ua
  have hli : ¬ (60 : Int) < A.length := by omega
  have hlt : ¬ (300 : Int) < T.length := by omega
  clear hx hn u ua hl ht
  generalize A.length = n1 at *
  generalize T.length = n2 at *
  go_enter Try.func3, Try.ntmps3
  go_wp2_with (first | (go_at_call 4; refine (live7_any _).mono ?_; rintro e w1 ⟨rfl, hb1⟩; have U1 := hidq (U0.out.below hb1); have K1 := hidq (K0.out.below hb1); have B1 := hidq hb1; clear hb1) | (go_at_call 5; refine (C1.out _ U1.out K1.out).mono ?_; rintro e w2 ⟨rfl, hb2⟩; have U2 := hidq ((U1.out.below hb2).alloc (.cells #[.bool x.1, .bool x.2.1, .int .u64 (M.nu x.2.2.1.1), .int .u64 (M.nu x.2.2.1.2), .int .u64 (M.nu x.2.2.2.1.1.1), .int .u64 (M.nu x.2.2.2.1.1.2), .int .u64 (M.nu x.2.2.2.1.2.1), .int .u64 (M.nu x.2.2.2.1.2.2), .int .i64 x.2.2.2.2] 31)); have K2 := hidq ((K1.out.below hb2).alloc (.cells #[.bool x.1, .bool x.2.1, .int .u64 (M.nu x.2.2.1.1), .int .u64 (M.nu x.2.2.1.2), .int .u64 (M.nu x.2.2.2.1.1.1), .int .u64 (M.nu x.2.2.2.1.1.2), .int .u64 (M.nu x.2.2.2.1.2.1), .int .u64 (M.nu x.2.2.2.1.2.2), .int .i64 x.2.2.2.2] 31)); have Xx2 := hidq (Bx9.new w2 x); have B2 := hidq (below_one (o := (.cells #[.bool x.1, .bool x.2.1, .int .u64 (M.nu x.2.2.1.1), .int .u64 (M.nu x.2.2.1.2), .int .u64 (M.nu x.2.2.2.1.1.1), .int .u64 (M.nu x.2.2.2.1.1.2), .int .u64 (M.nu x.2.2.2.1.2.1), .int .u64 (M.nu x.2.2.2.1.2.2), .int .i64 x.2.2.2.2] 31)) (below_trans B1.out hb2)); clear hb2) | (go_at_call 6; refine (C2.out _ U2.out K2.out).mono ?_; rintro e w3 ⟨rfl, hb3⟩; have Yx3 := Xx2.out.below hb3; have cx3 := Yx3.cells; have lx3 := Yx3.lt; have B3 := hidq (below_one (o := (.cells #[.bool x.1, .bool x.2.1, .int .u64 (M.nu x.2.2.1.1), .int .u64 (M.nu x.2.2.1.2), .int .u64 (M.nu x.2.2.2.1.1.1), .int .u64 (M.nu x.2.2.2.1.1.2), .int .u64 (M.nu x.2.2.2.1.2.1), .int .u64 (M.nu x.2.2.2.1.2.2), .int .i64 x.2.2.2.2] 31)) (below_trans B2.out hb3)); clear hb3 Yx3))
  go_ret
  exact ⟨rfl, B3.out⟩
set_option maxRecDepth 100000 in
set_option maxHeartbeats 8000000 in
theorem evals_out {A : List M.Tm} {i : Int} {T : List M.Blk} (h : ¬ (A.length ≤ 60 ∧ T.length ≤ 300)) {vl va : Value} (w : World) (u : Ts w vl A) (ua : Bks w va T) :
    Calls Try.prog 3 #[vl, .int .i64 i, va] w fun e w' => e = .returned (.bool true) ∧ Below w.heap.size w w' := by
  obtain ⟨ao, cap, rfl, -⟩ := u.form
  obtain ⟨ab, cb, rfl, -⟩ := ua.form
  clear u ua
  by_cases hl : A.length ≤ 60
  · have hli : ¬ (60 : Int) < A.length := by omega
    have hlt : (300 : Int) < T.length := by omega
    clear h hl
    generalize A.length = n1 at *
    generalize T.length = n2 at *
    go_enter Try.func3, Try.ntmps3
    go_wp2_with (go_at_call 4; refine (live7_any _).mono ?_; rintro e w1 ⟨rfl, hb1⟩; have B1 := hidq hb1; clear hb1)
    go_ret
    exact ⟨rfl, B1.out⟩
  · have hli : (60 : Int) < A.length := by omega
    clear h hl
    generalize A.length = n1 at *
    generalize T.length = n2 at *
    go_enter Try.func3, Try.ntmps3
    go_wp2_with (go_at_call 4; refine (live7_any _).mono ?_; rintro e w1 ⟨rfl, hb1⟩; have B1 := hidq hb1; clear hb1)
    go_ret
    exact ⟨rfl, B1.out⟩
theorem valueEvals_walk (A : List M.Tm) (vl : Value) (i : Int) (T : List M.Blk) (va : Value) (w : World) (u : Ts w vl A) (_ : -9223372036854775808 ≤ i) (_ : i ≤ 9223372036854775807) (ua : Bks w va T) :
    Calls Try.prog 3 #[vl, .int .i64 i, va] w fun e w' => e = .returned (.bool true) ∧ Below w.heap.size w w' := by
  by_cases h : A.length ≤ 60 ∧ T.length ≤ 300
  · exact evals_in h.1 h.2 rfl rfl w u ua
  · exact evals_out h w u ua
end Go.Proofs.Ythbacijbgjmigaa
