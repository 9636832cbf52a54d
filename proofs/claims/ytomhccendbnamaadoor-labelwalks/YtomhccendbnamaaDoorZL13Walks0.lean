/-
  The law LabelWalks returns true at every input: walked in two goes one comes to where one comes in one; a node's value is that of the one above it, walked on by its side. Conditions: the slices hold terms, the numbers fit their kinds, the two tables read as their text lays them.
-/
import Derived.Test.YtomhccendbnamaaDoorZLbl
import Derived.Test.YtomhccendbnamaaDoorZTR
import Derived.Deep.DeepCutAuto
namespace Go.Proofs.YtomhccendbnamaaDoor
open Go.RowKit
theorem Bx9.grown9 {W W' : World} {B : Nat} {v : M.Val} {row : Option Nat} (h : Bx9 W B v) (hg : W.grownBy W' row) (hne : row ≠ some B) : Bx9 W' B v := by
  have := hg.block B h.lt (fun e => hne e.symm)
  unfold Bx9 at h ⊢
  rw [this]; exact h
set_option maxRecDepth 100000 in
theorem ist_of {W : World} {base n : Nat} {v : Value} {S T : List Int} (h : W.ownsRow base 3 1 v n (elInt.cells ([] ++ S ++ T))) (hf : ∀ x ∈ S ++ T, M.fitI x) : Is W v (S ++ T) := Sl.of_own (E := elInt) (by rw [List.nil_append] at h; exact h) hf
set_option maxRecDepth 100000 in
set_option maxHeartbeats 4000000 in
theorem labelWalks_long {A : List M.Tm} {h : Int} {m : M.Val} {n : Int} {S T : List Int} (hl : ¬ A.length ≤ 60 ∨ A.length ≤ 60 ∧ ¬ S.length ≤ 30 ∨ A.length ≤ 60 ∧ S.length ≤ 30 ∧ ¬ T.length ≤ 30) {vl vs vt : Value} (w : World) (hT : Tab w) (u : Ts w vl A) (us : Is w vs S) (ut : Is w vt T) :
    Calls Tryd.prog 3 #[vl, .int .i64 h, (.agg #[.bool m.1, .bool m.2.1, .int .u64 (M.nu m.2.2.1.1), .int .u64 (M.nu m.2.2.1.2), .int .u64 (M.nu m.2.2.2.1.1.1), .int .u64 (M.nu m.2.2.2.1.1.2), .int .u64 (M.nu m.2.2.2.1.2.1), .int .u64 (M.nu m.2.2.2.1.2.2), .int .i64 m.2.2.2.2]), .int .u64 n, vs, vt] w fun e w' => e = .returned (.bool true) ∧ Below w.heap.size w w' := by
  have heq := eqVa
  obtain ⟨al, cl, rfl, -, -, -⟩ := u.form
  obtain ⟨as_, cs, rfl, -, -, -⟩ := us.form
  obtain ⟨at_, ct, rfl, -, -, -⟩ := ut.form
  have Xm0 := hidq (Bx9.new w m)
  have UA0 := hidq (u.alloc (.cells #[.bool m.1, .bool m.2.1, .int .u64 (M.nu m.2.2.1.1), .int .u64 (M.nu m.2.2.1.2), .int .u64 (M.nu m.2.2.2.1.1.1), .int .u64 (M.nu m.2.2.2.1.1.2), .int .u64 (M.nu m.2.2.2.1.2.1), .int .u64 (M.nu m.2.2.2.1.2.2), .int .i64 m.2.2.2.2] 29))
  have Is0 := hidq (us.alloc (.cells #[.bool m.1, .bool m.2.1, .int .u64 (M.nu m.2.2.1.1), .int .u64 (M.nu m.2.2.1.2), .int .u64 (M.nu m.2.2.2.1.1.1), .int .u64 (M.nu m.2.2.2.1.1.2), .int .u64 (M.nu m.2.2.2.1.2.1), .int .u64 (M.nu m.2.2.2.1.2.2), .int .i64 m.2.2.2.2] 29))
  have It0 := hidq (ut.alloc (.cells #[.bool m.1, .bool m.2.1, .int .u64 (M.nu m.2.2.1.1), .int .u64 (M.nu m.2.2.1.2), .int .u64 (M.nu m.2.2.2.1.1.1), .int .u64 (M.nu m.2.2.2.1.1.2), .int .u64 (M.nu m.2.2.2.1.2.1), .int .u64 (M.nu m.2.2.2.1.2.2), .int .i64 m.2.2.2.2] 29))
  have B0 := hidq (show Below w.heap.size w (w.alloc (.cells #[.bool m.1, .bool m.2.1, .int .u64 (M.nu m.2.2.1.1), .int .u64 (M.nu m.2.2.1.2), .int .u64 (M.nu m.2.2.2.1.1.1), .int .u64 (M.nu m.2.2.2.1.1.2), .int .u64 (M.nu m.2.2.2.1.2.1), .int .u64 (M.nu m.2.2.2.1.2.2), .int .i64 m.2.2.2.2] 29)) from below_one (Below.refl _ _))
  have cm0 := Xm0.out.cells
  have HT := hidq (hT.below B0.out)
  clear hT u us ut
  rcases hl with hl | ⟨ha, hl⟩ | ⟨ha, hb, hl⟩
  · have g0 : (60 : Int) < A.length := by omega
    go_enter Tryd.func3, Tryd.ntmps3
    go_wp2_with (first | (go_at_call 7; refine (live13_any _ HT.out).mono ?_; rintro e w1 ⟨rfl, hb1⟩; have Ym1 := Xm0.out.below hb1; have cm1 := Ym1.cells; have lm1 := Ym1.lt; have Xm1 := hidq (Ym1); have UA1 := hidq (UA0.out.below hb1); have B1 := hidq (below_trans B0.out hb1); clear hb1 Ym1))
    go_ret
    exact ⟨rfl, B1.out⟩
  · have g0 : ¬ (60 : Int) < A.length := by omega
    have g1 : (30 : Int) < S.length := by omega
    go_enter Tryd.func3, Tryd.ntmps3
    go_wp2_with (first | (go_at_call 7; refine (live13_any _ HT.out).mono ?_; rintro e w1 ⟨rfl, hb1⟩; have Ym1 := Xm0.out.below hb1; have cm1 := Ym1.cells; have lm1 := Ym1.lt; have Xm1 := hidq (Ym1); have UA1 := hidq (UA0.out.below hb1); have B1 := hidq (below_trans B0.out hb1); clear hb1 Ym1))
    go_ret
    exact ⟨rfl, B1.out⟩
  · have g0 : ¬ (60 : Int) < A.length := by omega
    have g1 : ¬ (30 : Int) < S.length := by omega
    have g2 : (30 : Int) < T.length := by omega
    go_enter Tryd.func3, Tryd.ntmps3
    go_wp2_with (first | (go_at_call 7; refine (live13_any _ HT.out).mono ?_; rintro e w1 ⟨rfl, hb1⟩; have Ym1 := Xm0.out.below hb1; have cm1 := Ym1.cells; have lm1 := Ym1.lt; have Xm1 := hidq (Ym1); have UA1 := hidq (UA0.out.below hb1); have B1 := hidq (below_trans B0.out hb1); clear hb1 Ym1))
    go_ret
    exact ⟨rfl, B1.out⟩
end Go.Proofs.YtomhccendbnamaaDoor
