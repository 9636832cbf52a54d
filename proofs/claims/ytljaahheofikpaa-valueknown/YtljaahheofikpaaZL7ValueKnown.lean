/-
  The law ValueKnown: its walk. Conditions: the slices hold terms and places.
-/
import Derived.Test.YtljaahheofikpaaZL7Knownff
import Derived.Test.YtljaahheofikpaaZL7Knowntf
import Derived.Test.YtljaahheofikpaaZL7Knowntt
namespace Go.Proofs.Ytljaahheofikpaa
open Go.RowKit
set_option maxRecDepth 100000 in
set_option maxHeartbeats 8000000 in
theorem known_long {A : List M.Tm} {H : List Int} {k v : M.Val} {i : Int} (hl : ¬ A.length ≤ 40) {vl vh : Value} (w : World) (u : Ts w vl A) (uh : Is w vh H) :
    Calls Try.prog 7 #[vl, vh, (.agg #[.bool k.1, .bool k.2.1, .int .u64 (M.nu k.2.2.1.1), .int .u64 (M.nu k.2.2.1.2), .int .u64 (M.nu k.2.2.2.1.1.1), .int .u64 (M.nu k.2.2.2.1.1.2), .int .u64 (M.nu k.2.2.2.1.2.1), .int .u64 (M.nu k.2.2.2.1.2.2), .int .i64 k.2.2.2.2]), (.agg #[.bool v.1, .bool v.2.1, .int .u64 (M.nu v.2.2.1.1), .int .u64 (M.nu v.2.2.1.2), .int .u64 (M.nu v.2.2.2.1.1.1), .int .u64 (M.nu v.2.2.2.1.1.2), .int .u64 (M.nu v.2.2.2.1.2.1), .int .u64 (M.nu v.2.2.2.1.2.2), .int .i64 v.2.2.2.2]), .int .i64 i] w fun e w' => e = .returned (.bool true) ∧ Below w.heap.size w w' := by
  have Xk0 := hidq ((Bx9.new w k).alloc (.cells #[.bool v.1, .bool v.2.1, .int .u64 (M.nu v.2.2.1.1), .int .u64 (M.nu v.2.2.1.2), .int .u64 (M.nu v.2.2.2.1.1.1), .int .u64 (M.nu v.2.2.2.1.1.2), .int .u64 (M.nu v.2.2.2.1.2.1), .int .u64 (M.nu v.2.2.2.1.2.2), .int .i64 v.2.2.2.2] 29))
  have Xv0 := hidq (Bx9.new (w.alloc (.cells #[.bool k.1, .bool k.2.1, .int .u64 (M.nu k.2.2.1.1), .int .u64 (M.nu k.2.2.1.2), .int .u64 (M.nu k.2.2.2.1.1.1), .int .u64 (M.nu k.2.2.2.1.1.2), .int .u64 (M.nu k.2.2.2.1.2.1), .int .u64 (M.nu k.2.2.2.1.2.2), .int .i64 k.2.2.2.2] 29)) v)
  rw [World.size_alloc] at Xv0
  have UA0 := hidq ((u.alloc (.cells #[.bool k.1, .bool k.2.1, .int .u64 (M.nu k.2.2.1.1), .int .u64 (M.nu k.2.2.1.2), .int .u64 (M.nu k.2.2.2.1.1.1), .int .u64 (M.nu k.2.2.2.1.1.2), .int .u64 (M.nu k.2.2.2.1.2.1), .int .u64 (M.nu k.2.2.2.1.2.2), .int .i64 k.2.2.2.2] 29)).alloc (.cells #[.bool v.1, .bool v.2.1, .int .u64 (M.nu v.2.2.1.1), .int .u64 (M.nu v.2.2.1.2), .int .u64 (M.nu v.2.2.2.1.1.1), .int .u64 (M.nu v.2.2.2.1.1.2), .int .u64 (M.nu v.2.2.2.1.2.1), .int .u64 (M.nu v.2.2.2.1.2.2), .int .i64 v.2.2.2.2] 29))
  have IH0 := hidq ((uh.alloc (.cells #[.bool k.1, .bool k.2.1, .int .u64 (M.nu k.2.2.1.1), .int .u64 (M.nu k.2.2.1.2), .int .u64 (M.nu k.2.2.2.1.1.1), .int .u64 (M.nu k.2.2.2.1.1.2), .int .u64 (M.nu k.2.2.2.1.2.1), .int .u64 (M.nu k.2.2.2.1.2.2), .int .i64 k.2.2.2.2] 29)).alloc (.cells #[.bool v.1, .bool v.2.1, .int .u64 (M.nu v.2.2.1.1), .int .u64 (M.nu v.2.2.1.2), .int .u64 (M.nu v.2.2.2.1.1.1), .int .u64 (M.nu v.2.2.2.1.1.2), .int .u64 (M.nu v.2.2.2.1.2.1), .int .u64 (M.nu v.2.2.2.1.2.2), .int .i64 v.2.2.2.2] 29))
  have B0 := hidq (show Below w.heap.size w ((w.alloc (.cells #[.bool k.1, .bool k.2.1, .int .u64 (M.nu k.2.2.1.1), .int .u64 (M.nu k.2.2.1.2), .int .u64 (M.nu k.2.2.2.1.1.1), .int .u64 (M.nu k.2.2.2.1.1.2), .int .u64 (M.nu k.2.2.2.1.2.1), .int .u64 (M.nu k.2.2.2.1.2.2), .int .i64 k.2.2.2.2] 29)).alloc (.cells #[.bool v.1, .bool v.2.1, .int .u64 (M.nu v.2.2.1.1), .int .u64 (M.nu v.2.2.1.2), .int .u64 (M.nu v.2.2.2.1.1.1), .int .u64 (M.nu v.2.2.2.1.1.2), .int .u64 (M.nu v.2.2.2.1.2.1), .int .u64 (M.nu v.2.2.2.1.2.2), .int .i64 v.2.2.2.2] 29)) from below_one (below_one (Below.refl _ _)))
  have FA := hidq u.oks
  obtain ⟨ao, cap, rfl, p1, p2, _⟩ := u.form
  obtain ⟨ah, caph, rfl, _, _, _⟩ := uh.form
  have hli : (40 : Int) < A.length := by omega
  clear u uh FA
  skip
  generalize A.length = n at *
  generalize H.length = m at *
  go_enter Try.func7, Try.ntmps7
  go_wp2_with (first | (go_at_call 9; refine (live7_any _).mono ?_; rintro e w1 ⟨rfl, hb1⟩; have Yk1 := Xk0.out.below hb1; have ck1 := Yk1.cells; have lk1 := Yk1.lt; have Xk1 := hidq (Yk1); have Yv1 := Xv0.out.below hb1; have cv1 := Yv1.cells; have lv1 := Yv1.lt; have Xv1 := hidq (Yv1); have UA1 := hidq (UA0.out.below hb1); have IH1 := hidq (IH0.out.below hb1); have B1 := hidq (below_trans B0.out hb1); clear hb1 Yk1 Yv1))
  go_ret
  exact ⟨rfl, B1.out⟩
set_option maxRecDepth 100000 in
set_option maxHeartbeats 8000000 in
theorem known_more {A : List M.Tm} {H : List Int} {k v : M.Val} {i : Int} (hl : A.length ≤ 40) (hh : ¬ H.length ≤ 60) {vl vh : Value} (w : World) (u : Ts w vl A) (uh : Is w vh H) :
    Calls Try.prog 7 #[vl, vh, (.agg #[.bool k.1, .bool k.2.1, .int .u64 (M.nu k.2.2.1.1), .int .u64 (M.nu k.2.2.1.2), .int .u64 (M.nu k.2.2.2.1.1.1), .int .u64 (M.nu k.2.2.2.1.1.2), .int .u64 (M.nu k.2.2.2.1.2.1), .int .u64 (M.nu k.2.2.2.1.2.2), .int .i64 k.2.2.2.2]), (.agg #[.bool v.1, .bool v.2.1, .int .u64 (M.nu v.2.2.1.1), .int .u64 (M.nu v.2.2.1.2), .int .u64 (M.nu v.2.2.2.1.1.1), .int .u64 (M.nu v.2.2.2.1.1.2), .int .u64 (M.nu v.2.2.2.1.2.1), .int .u64 (M.nu v.2.2.2.1.2.2), .int .i64 v.2.2.2.2]), .int .i64 i] w fun e w' => e = .returned (.bool true) ∧ Below w.heap.size w w' := by
  have Xk0 := hidq ((Bx9.new w k).alloc (.cells #[.bool v.1, .bool v.2.1, .int .u64 (M.nu v.2.2.1.1), .int .u64 (M.nu v.2.2.1.2), .int .u64 (M.nu v.2.2.2.1.1.1), .int .u64 (M.nu v.2.2.2.1.1.2), .int .u64 (M.nu v.2.2.2.1.2.1), .int .u64 (M.nu v.2.2.2.1.2.2), .int .i64 v.2.2.2.2] 29))
  have Xv0 := hidq (Bx9.new (w.alloc (.cells #[.bool k.1, .bool k.2.1, .int .u64 (M.nu k.2.2.1.1), .int .u64 (M.nu k.2.2.1.2), .int .u64 (M.nu k.2.2.2.1.1.1), .int .u64 (M.nu k.2.2.2.1.1.2), .int .u64 (M.nu k.2.2.2.1.2.1), .int .u64 (M.nu k.2.2.2.1.2.2), .int .i64 k.2.2.2.2] 29)) v)
  rw [World.size_alloc] at Xv0
  have UA0 := hidq ((u.alloc (.cells #[.bool k.1, .bool k.2.1, .int .u64 (M.nu k.2.2.1.1), .int .u64 (M.nu k.2.2.1.2), .int .u64 (M.nu k.2.2.2.1.1.1), .int .u64 (M.nu k.2.2.2.1.1.2), .int .u64 (M.nu k.2.2.2.1.2.1), .int .u64 (M.nu k.2.2.2.1.2.2), .int .i64 k.2.2.2.2] 29)).alloc (.cells #[.bool v.1, .bool v.2.1, .int .u64 (M.nu v.2.2.1.1), .int .u64 (M.nu v.2.2.1.2), .int .u64 (M.nu v.2.2.2.1.1.1), .int .u64 (M.nu v.2.2.2.1.1.2), .int .u64 (M.nu v.2.2.2.1.2.1), .int .u64 (M.nu v.2.2.2.1.2.2), .int .i64 v.2.2.2.2] 29))
  have IH0 := hidq ((uh.alloc (.cells #[.bool k.1, .bool k.2.1, .int .u64 (M.nu k.2.2.1.1), .int .u64 (M.nu k.2.2.1.2), .int .u64 (M.nu k.2.2.2.1.1.1), .int .u64 (M.nu k.2.2.2.1.1.2), .int .u64 (M.nu k.2.2.2.1.2.1), .int .u64 (M.nu k.2.2.2.1.2.2), .int .i64 k.2.2.2.2] 29)).alloc (.cells #[.bool v.1, .bool v.2.1, .int .u64 (M.nu v.2.2.1.1), .int .u64 (M.nu v.2.2.1.2), .int .u64 (M.nu v.2.2.2.1.1.1), .int .u64 (M.nu v.2.2.2.1.1.2), .int .u64 (M.nu v.2.2.2.1.2.1), .int .u64 (M.nu v.2.2.2.1.2.2), .int .i64 v.2.2.2.2] 29))
  have B0 := hidq (show Below w.heap.size w ((w.alloc (.cells #[.bool k.1, .bool k.2.1, .int .u64 (M.nu k.2.2.1.1), .int .u64 (M.nu k.2.2.1.2), .int .u64 (M.nu k.2.2.2.1.1.1), .int .u64 (M.nu k.2.2.2.1.1.2), .int .u64 (M.nu k.2.2.2.1.2.1), .int .u64 (M.nu k.2.2.2.1.2.2), .int .i64 k.2.2.2.2] 29)).alloc (.cells #[.bool v.1, .bool v.2.1, .int .u64 (M.nu v.2.2.1.1), .int .u64 (M.nu v.2.2.1.2), .int .u64 (M.nu v.2.2.2.1.1.1), .int .u64 (M.nu v.2.2.2.1.1.2), .int .u64 (M.nu v.2.2.2.1.2.1), .int .u64 (M.nu v.2.2.2.1.2.2), .int .i64 v.2.2.2.2] 29)) from below_one (below_one (Below.refl _ _)))
  have FA := hidq u.oks
  obtain ⟨ao, cap, rfl, p1, p2, _⟩ := u.form
  obtain ⟨ah, caph, rfl, _, _, _⟩ := uh.form
  have hli : ¬ (40 : Int) < A.length := by omega
  have hhi : (60 : Int) < H.length := by omega
  clear u uh FA
  skip
  generalize A.length = n at *
  generalize H.length = m at *
  go_enter Try.func7, Try.ntmps7
  go_wp2_with (first | (go_at_call 9; refine (live7_any _).mono ?_; rintro e w1 ⟨rfl, hb1⟩; have Yk1 := Xk0.out.below hb1; have ck1 := Yk1.cells; have lk1 := Yk1.lt; have Xk1 := hidq (Yk1); have Yv1 := Xv0.out.below hb1; have cv1 := Yv1.cells; have lv1 := Yv1.lt; have Xv1 := hidq (Yv1); have UA1 := hidq (UA0.out.below hb1); have IH1 := hidq (IH0.out.below hb1); have B1 := hidq (below_trans B0.out hb1); clear hb1 Yk1 Yv1))
  go_ret
  exact ⟨rfl, B1.out⟩
set_option maxRecDepth 100000 in
set_option maxHeartbeats 8000000 in
theorem known_ko {A : List M.Tm} {H : List Int} {l : Bool} {b : M.Blk} {q : M.Sea} {t : Int} {v : M.Val} {i : Int} (hl : A.length ≤ 40) (hh : H.length ≤ 60) {vl vh : Value} (w : World) (u : Ts w vl A) (uh : Is w vh H) :
    Calls Try.prog 7 #[vl, vh, (.agg #[.bool (false, l, b, q, t).1, .bool (false, l, b, q, t).2.1, .int .u64 (M.nu (false, l, b, q, t).2.2.1.1), .int .u64 (M.nu (false, l, b, q, t).2.2.1.2), .int .u64 (M.nu (false, l, b, q, t).2.2.2.1.1.1), .int .u64 (M.nu (false, l, b, q, t).2.2.2.1.1.2), .int .u64 (M.nu (false, l, b, q, t).2.2.2.1.2.1), .int .u64 (M.nu (false, l, b, q, t).2.2.2.1.2.2), .int .i64 (false, l, b, q, t).2.2.2.2]), (.agg #[.bool v.1, .bool v.2.1, .int .u64 (M.nu v.2.2.1.1), .int .u64 (M.nu v.2.2.1.2), .int .u64 (M.nu v.2.2.2.1.1.1), .int .u64 (M.nu v.2.2.2.1.1.2), .int .u64 (M.nu v.2.2.2.1.2.1), .int .u64 (M.nu v.2.2.2.1.2.2), .int .i64 v.2.2.2.2]), .int .i64 i] w fun e w' => e = .returned (.bool true) ∧ Below w.heap.size w w' := by
  have Xk0 := hidq ((Bx9.new w (false, l, b, q, t)).alloc (.cells #[.bool v.1, .bool v.2.1, .int .u64 (M.nu v.2.2.1.1), .int .u64 (M.nu v.2.2.1.2), .int .u64 (M.nu v.2.2.2.1.1.1), .int .u64 (M.nu v.2.2.2.1.1.2), .int .u64 (M.nu v.2.2.2.1.2.1), .int .u64 (M.nu v.2.2.2.1.2.2), .int .i64 v.2.2.2.2] 29))
  have Xv0 := hidq (Bx9.new (w.alloc (.cells #[.bool (false, l, b, q, t).1, .bool (false, l, b, q, t).2.1, .int .u64 (M.nu (false, l, b, q, t).2.2.1.1), .int .u64 (M.nu (false, l, b, q, t).2.2.1.2), .int .u64 (M.nu (false, l, b, q, t).2.2.2.1.1.1), .int .u64 (M.nu (false, l, b, q, t).2.2.2.1.1.2), .int .u64 (M.nu (false, l, b, q, t).2.2.2.1.2.1), .int .u64 (M.nu (false, l, b, q, t).2.2.2.1.2.2), .int .i64 (false, l, b, q, t).2.2.2.2] 29)) v)
  rw [World.size_alloc] at Xv0
  have UA0 := hidq ((u.alloc (.cells #[.bool (false, l, b, q, t).1, .bool (false, l, b, q, t).2.1, .int .u64 (M.nu (false, l, b, q, t).2.2.1.1), .int .u64 (M.nu (false, l, b, q, t).2.2.1.2), .int .u64 (M.nu (false, l, b, q, t).2.2.2.1.1.1), .int .u64 (M.nu (false, l, b, q, t).2.2.2.1.1.2), .int .u64 (M.nu (false, l, b, q, t).2.2.2.1.2.1), .int .u64 (M.nu (false, l, b, q, t).2.2.2.1.2.2), .int .i64 (false, l, b, q, t).2.2.2.2] 29)).alloc (.cells #[.bool v.1, .bool v.2.1, .int .u64 (M.nu v.2.2.1.1), .int .u64 (M.nu v.2.2.1.2), .int .u64 (M.nu v.2.2.2.1.1.1), .int .u64 (M.nu v.2.2.2.1.1.2), .int .u64 (M.nu v.2.2.2.1.2.1), .int .u64 (M.nu v.2.2.2.1.2.2), .int .i64 v.2.2.2.2] 29))
  have IH0 := hidq ((uh.alloc (.cells #[.bool (false, l, b, q, t).1, .bool (false, l, b, q, t).2.1, .int .u64 (M.nu (false, l, b, q, t).2.2.1.1), .int .u64 (M.nu (false, l, b, q, t).2.2.1.2), .int .u64 (M.nu (false, l, b, q, t).2.2.2.1.1.1), .int .u64 (M.nu (false, l, b, q, t).2.2.2.1.1.2), .int .u64 (M.nu (false, l, b, q, t).2.2.2.1.2.1), .int .u64 (M.nu (false, l, b, q, t).2.2.2.1.2.2), .int .i64 (false, l, b, q, t).2.2.2.2] 29)).alloc (.cells #[.bool v.1, .bool v.2.1, .int .u64 (M.nu v.2.2.1.1), .int .u64 (M.nu v.2.2.1.2), .int .u64 (M.nu v.2.2.2.1.1.1), .int .u64 (M.nu v.2.2.2.1.1.2), .int .u64 (M.nu v.2.2.2.1.2.1), .int .u64 (M.nu v.2.2.2.1.2.2), .int .i64 v.2.2.2.2] 29))
  have B0 := hidq (show Below w.heap.size w ((w.alloc (.cells #[.bool (false, l, b, q, t).1, .bool (false, l, b, q, t).2.1, .int .u64 (M.nu (false, l, b, q, t).2.2.1.1), .int .u64 (M.nu (false, l, b, q, t).2.2.1.2), .int .u64 (M.nu (false, l, b, q, t).2.2.2.1.1.1), .int .u64 (M.nu (false, l, b, q, t).2.2.2.1.1.2), .int .u64 (M.nu (false, l, b, q, t).2.2.2.1.2.1), .int .u64 (M.nu (false, l, b, q, t).2.2.2.1.2.2), .int .i64 (false, l, b, q, t).2.2.2.2] 29)).alloc (.cells #[.bool v.1, .bool v.2.1, .int .u64 (M.nu v.2.2.1.1), .int .u64 (M.nu v.2.2.1.2), .int .u64 (M.nu v.2.2.2.1.1.1), .int .u64 (M.nu v.2.2.2.1.1.2), .int .u64 (M.nu v.2.2.2.1.2.1), .int .u64 (M.nu v.2.2.2.1.2.2), .int .i64 v.2.2.2.2] 29)) from below_one (below_one (Below.refl _ _)))
  have FA := hidq u.oks
  obtain ⟨ao, cap, rfl, p1, p2, _⟩ := u.form
  obtain ⟨ah, caph, rfl, _, _, _⟩ := uh.form
  have hli : ¬ (40 : Int) < A.length := by omega
  have hhi : ¬ (60 : Int) < H.length := by omega
  clear u uh FA
  dsimp only at Xk0 Xv0 UA0 IH0 B0 ⊢
  generalize A.length = n at *
  generalize H.length = m at *
  go_enter Try.func7, Try.ntmps7
  go_wp2_with (first | (go_at_call 9; refine (live7_any _).mono ?_; rintro e w1 ⟨rfl, hb1⟩; have Yk1 := Xk0.out.below hb1; have ck1 := Yk1.cells; have lk1 := Yk1.lt; have Xk1 := hidq (Yk1); have Yv1 := Xv0.out.below hb1; have cv1 := Yv1.cells; have lv1 := Yv1.lt; have Xv1 := hidq (Yv1); have UA1 := hidq (UA0.out.below hb1); have IH1 := hidq (IH0.out.below hb1); have B1 := hidq (below_trans B0.out hb1); clear hb1 Yk1 Yv1))
  go_ret
  exact ⟨rfl, B1.out⟩
set_option maxRecDepth 100000 in
set_option maxHeartbeats 8000000 in
theorem known_vo {A : List M.Tm} {H : List Int} {l l' : Bool} {b b' : M.Blk} {q q' : M.Sea} {t t' : Int} {i : Int} (hl : A.length ≤ 40) (hh : H.length ≤ 60) {vl vh : Value} (w : World) (u : Ts w vl A) (uh : Is w vh H) :
    Calls Try.prog 7 #[vl, vh, (.agg #[.bool (true, l, b, q, t).1, .bool (true, l, b, q, t).2.1, .int .u64 (M.nu (true, l, b, q, t).2.2.1.1), .int .u64 (M.nu (true, l, b, q, t).2.2.1.2), .int .u64 (M.nu (true, l, b, q, t).2.2.2.1.1.1), .int .u64 (M.nu (true, l, b, q, t).2.2.2.1.1.2), .int .u64 (M.nu (true, l, b, q, t).2.2.2.1.2.1), .int .u64 (M.nu (true, l, b, q, t).2.2.2.1.2.2), .int .i64 (true, l, b, q, t).2.2.2.2]), (.agg #[.bool (false, l', b', q', t').1, .bool (false, l', b', q', t').2.1, .int .u64 (M.nu (false, l', b', q', t').2.2.1.1), .int .u64 (M.nu (false, l', b', q', t').2.2.1.2), .int .u64 (M.nu (false, l', b', q', t').2.2.2.1.1.1), .int .u64 (M.nu (false, l', b', q', t').2.2.2.1.1.2), .int .u64 (M.nu (false, l', b', q', t').2.2.2.1.2.1), .int .u64 (M.nu (false, l', b', q', t').2.2.2.1.2.2), .int .i64 (false, l', b', q', t').2.2.2.2]), .int .i64 i] w fun e w' => e = .returned (.bool true) ∧ Below w.heap.size w w' := by
  have Xk0 := hidq ((Bx9.new w (true, l, b, q, t)).alloc (.cells #[.bool (false, l', b', q', t').1, .bool (false, l', b', q', t').2.1, .int .u64 (M.nu (false, l', b', q', t').2.2.1.1), .int .u64 (M.nu (false, l', b', q', t').2.2.1.2), .int .u64 (M.nu (false, l', b', q', t').2.2.2.1.1.1), .int .u64 (M.nu (false, l', b', q', t').2.2.2.1.1.2), .int .u64 (M.nu (false, l', b', q', t').2.2.2.1.2.1), .int .u64 (M.nu (false, l', b', q', t').2.2.2.1.2.2), .int .i64 (false, l', b', q', t').2.2.2.2] 29))
  have Xv0 := hidq (Bx9.new (w.alloc (.cells #[.bool (true, l, b, q, t).1, .bool (true, l, b, q, t).2.1, .int .u64 (M.nu (true, l, b, q, t).2.2.1.1), .int .u64 (M.nu (true, l, b, q, t).2.2.1.2), .int .u64 (M.nu (true, l, b, q, t).2.2.2.1.1.1), .int .u64 (M.nu (true, l, b, q, t).2.2.2.1.1.2), .int .u64 (M.nu (true, l, b, q, t).2.2.2.1.2.1), .int .u64 (M.nu (true, l, b, q, t).2.2.2.1.2.2), .int .i64 (true, l, b, q, t).2.2.2.2] 29)) (false, l', b', q', t'))
  rw [World.size_alloc] at Xv0
  have UA0 := hidq ((u.alloc (.cells #[.bool (true, l, b, q, t).1, .bool (true, l, b, q, t).2.1, .int .u64 (M.nu (true, l, b, q, t).2.2.1.1), .int .u64 (M.nu (true, l, b, q, t).2.2.1.2), .int .u64 (M.nu (true, l, b, q, t).2.2.2.1.1.1), .int .u64 (M.nu (true, l, b, q, t).2.2.2.1.1.2), .int .u64 (M.nu (true, l, b, q, t).2.2.2.1.2.1), .int .u64 (M.nu (true, l, b, q, t).2.2.2.1.2.2), .int .i64 (true, l, b, q, t).2.2.2.2] 29)).alloc (.cells #[.bool (false, l', b', q', t').1, .bool (false, l', b', q', t').2.1, .int .u64 (M.nu (false, l', b', q', t').2.2.1.1), .int .u64 (M.nu (false, l', b', q', t').2.2.1.2), .int .u64 (M.nu (false, l', b', q', t').2.2.2.1.1.1), .int .u64 (M.nu (false, l', b', q', t').2.2.2.1.1.2), .int .u64 (M.nu (false, l', b', q', t').2.2.2.1.2.1), .int .u64 (M.nu (false, l', b', q', t').2.2.2.1.2.2), .int .i64 (false, l', b', q', t').2.2.2.2] 29))
  have IH0 := hidq ((uh.alloc (.cells #[.bool (true, l, b, q, t).1, .bool (true, l, b, q, t).2.1, .int .u64 (M.nu (true, l, b, q, t).2.2.1.1), .int .u64 (M.nu (true, l, b, q, t).2.2.1.2), .int .u64 (M.nu (true, l, b, q, t).2.2.2.1.1.1), .int .u64 (M.nu (true, l, b, q, t).2.2.2.1.1.2), .int .u64 (M.nu (true, l, b, q, t).2.2.2.1.2.1), .int .u64 (M.nu (true, l, b, q, t).2.2.2.1.2.2), .int .i64 (true, l, b, q, t).2.2.2.2] 29)).alloc (.cells #[.bool (false, l', b', q', t').1, .bool (false, l', b', q', t').2.1, .int .u64 (M.nu (false, l', b', q', t').2.2.1.1), .int .u64 (M.nu (false, l', b', q', t').2.2.1.2), .int .u64 (M.nu (false, l', b', q', t').2.2.2.1.1.1), .int .u64 (M.nu (false, l', b', q', t').2.2.2.1.1.2), .int .u64 (M.nu (false, l', b', q', t').2.2.2.1.2.1), .int .u64 (M.nu (false, l', b', q', t').2.2.2.1.2.2), .int .i64 (false, l', b', q', t').2.2.2.2] 29))
  have B0 := hidq (show Below w.heap.size w ((w.alloc (.cells #[.bool (true, l, b, q, t).1, .bool (true, l, b, q, t).2.1, .int .u64 (M.nu (true, l, b, q, t).2.2.1.1), .int .u64 (M.nu (true, l, b, q, t).2.2.1.2), .int .u64 (M.nu (true, l, b, q, t).2.2.2.1.1.1), .int .u64 (M.nu (true, l, b, q, t).2.2.2.1.1.2), .int .u64 (M.nu (true, l, b, q, t).2.2.2.1.2.1), .int .u64 (M.nu (true, l, b, q, t).2.2.2.1.2.2), .int .i64 (true, l, b, q, t).2.2.2.2] 29)).alloc (.cells #[.bool (false, l', b', q', t').1, .bool (false, l', b', q', t').2.1, .int .u64 (M.nu (false, l', b', q', t').2.2.1.1), .int .u64 (M.nu (false, l', b', q', t').2.2.1.2), .int .u64 (M.nu (false, l', b', q', t').2.2.2.1.1.1), .int .u64 (M.nu (false, l', b', q', t').2.2.2.1.1.2), .int .u64 (M.nu (false, l', b', q', t').2.2.2.1.2.1), .int .u64 (M.nu (false, l', b', q', t').2.2.2.1.2.2), .int .i64 (false, l', b', q', t').2.2.2.2] 29)) from below_one (below_one (Below.refl _ _)))
  have FA := hidq u.oks
  obtain ⟨ao, cap, rfl, p1, p2, _⟩ := u.form
  obtain ⟨ah, caph, rfl, _, _, _⟩ := uh.form
  have hli : ¬ (40 : Int) < A.length := by omega
  have hhi : ¬ (60 : Int) < H.length := by omega
  clear u uh FA
  dsimp only at Xk0 Xv0 UA0 IH0 B0 ⊢
  generalize A.length = n at *
  generalize H.length = m at *
  go_enter Try.func7, Try.ntmps7
  go_wp2_with (first | (go_at_call 9; refine (live7_any _).mono ?_; rintro e w1 ⟨rfl, hb1⟩; have Yk1 := Xk0.out.below hb1; have ck1 := Yk1.cells; have lk1 := Yk1.lt; have Xk1 := hidq (Yk1); have Yv1 := Xv0.out.below hb1; have cv1 := Yv1.cells; have lv1 := Yv1.lt; have Xv1 := hidq (Yv1); have UA1 := hidq (UA0.out.below hb1); have IH1 := hidq (IH0.out.below hb1); have B1 := hidq (below_trans B0.out hb1); clear hb1 Yk1 Yv1))
  go_ret
  exact ⟨rfl, B1.out⟩
set_option maxRecDepth 100000 in
set_option maxHeartbeats 8000000 in
theorem known_err {A : List M.Tm} {H : List Int} {l l' : Bool} {b b' : M.Blk} {q q' : M.Sea} {t t' : Int} {i : Int} (hl : A.length ≤ 40) (hh : H.length ≤ 60) {r1 r2 : Bool} {e1 e2 : Int} (he : e1 = 1 ∨ e1 = 0 ∧ e2 = 1) (C1 : Hid (∀ (W : World) (v1 v2 : Value), Ts W v1 A → Is W v2 H → Calls Try.prog 23 #[v1, v2, .int .i64 t] W fun x w' => x = .returned (.tuple #[.bool r1, .int .i64 e1]) ∧ Below W.heap.size W w')) (C2 : Hid (∀ (W : World) (v1 v2 : Value), Ts W v1 A → Is W v2 H → Calls Try.prog 23 #[v1, v2, .int .i64 t'] W fun x w' => x = .returned (.tuple #[.bool r2, .int .i64 e2]) ∧ Below W.heap.size W w')) {vl vh : Value} (w : World) (u : Ts w vl A) (uh : Is w vh H) :
    Calls Try.prog 7 #[vl, vh, (.agg #[.bool (true, l, b, q, t).1, .bool (true, l, b, q, t).2.1, .int .u64 (M.nu (true, l, b, q, t).2.2.1.1), .int .u64 (M.nu (true, l, b, q, t).2.2.1.2), .int .u64 (M.nu (true, l, b, q, t).2.2.2.1.1.1), .int .u64 (M.nu (true, l, b, q, t).2.2.2.1.1.2), .int .u64 (M.nu (true, l, b, q, t).2.2.2.1.2.1), .int .u64 (M.nu (true, l, b, q, t).2.2.2.1.2.2), .int .i64 (true, l, b, q, t).2.2.2.2]), (.agg #[.bool (true, l', b', q', t').1, .bool (true, l', b', q', t').2.1, .int .u64 (M.nu (true, l', b', q', t').2.2.1.1), .int .u64 (M.nu (true, l', b', q', t').2.2.1.2), .int .u64 (M.nu (true, l', b', q', t').2.2.2.1.1.1), .int .u64 (M.nu (true, l', b', q', t').2.2.2.1.1.2), .int .u64 (M.nu (true, l', b', q', t').2.2.2.1.2.1), .int .u64 (M.nu (true, l', b', q', t').2.2.2.1.2.2), .int .i64 (true, l', b', q', t').2.2.2.2]), .int .i64 i] w fun e w' => e = .returned (.bool true) ∧ Below w.heap.size w w' := by
  have Xk0 := hidq ((Bx9.new w (true, l, b, q, t)).alloc (.cells #[.bool (true, l', b', q', t').1, .bool (true, l', b', q', t').2.1, .int .u64 (M.nu (true, l', b', q', t').2.2.1.1), .int .u64 (M.nu (true, l', b', q', t').2.2.1.2), .int .u64 (M.nu (true, l', b', q', t').2.2.2.1.1.1), .int .u64 (M.nu (true, l', b', q', t').2.2.2.1.1.2), .int .u64 (M.nu (true, l', b', q', t').2.2.2.1.2.1), .int .u64 (M.nu (true, l', b', q', t').2.2.2.1.2.2), .int .i64 (true, l', b', q', t').2.2.2.2] 29))
  have Xv0 := hidq (Bx9.new (w.alloc (.cells #[.bool (true, l, b, q, t).1, .bool (true, l, b, q, t).2.1, .int .u64 (M.nu (true, l, b, q, t).2.2.1.1), .int .u64 (M.nu (true, l, b, q, t).2.2.1.2), .int .u64 (M.nu (true, l, b, q, t).2.2.2.1.1.1), .int .u64 (M.nu (true, l, b, q, t).2.2.2.1.1.2), .int .u64 (M.nu (true, l, b, q, t).2.2.2.1.2.1), .int .u64 (M.nu (true, l, b, q, t).2.2.2.1.2.2), .int .i64 (true, l, b, q, t).2.2.2.2] 29)) (true, l', b', q', t'))
  rw [World.size_alloc] at Xv0
  have UA0 := hidq ((u.alloc (.cells #[.bool (true, l, b, q, t).1, .bool (true, l, b, q, t).2.1, .int .u64 (M.nu (true, l, b, q, t).2.2.1.1), .int .u64 (M.nu (true, l, b, q, t).2.2.1.2), .int .u64 (M.nu (true, l, b, q, t).2.2.2.1.1.1), .int .u64 (M.nu (true, l, b, q, t).2.2.2.1.1.2), .int .u64 (M.nu (true, l, b, q, t).2.2.2.1.2.1), .int .u64 (M.nu (true, l, b, q, t).2.2.2.1.2.2), .int .i64 (true, l, b, q, t).2.2.2.2] 29)).alloc (.cells #[.bool (true, l', b', q', t').1, .bool (true, l', b', q', t').2.1, .int .u64 (M.nu (true, l', b', q', t').2.2.1.1), .int .u64 (M.nu (true, l', b', q', t').2.2.1.2), .int .u64 (M.nu (true, l', b', q', t').2.2.2.1.1.1), .int .u64 (M.nu (true, l', b', q', t').2.2.2.1.1.2), .int .u64 (M.nu (true, l', b', q', t').2.2.2.1.2.1), .int .u64 (M.nu (true, l', b', q', t').2.2.2.1.2.2), .int .i64 (true, l', b', q', t').2.2.2.2] 29))
  have IH0 := hidq ((uh.alloc (.cells #[.bool (true, l, b, q, t).1, .bool (true, l, b, q, t).2.1, .int .u64 (M.nu (true, l, b, q, t).2.2.1.1), .int .u64 (M.nu (true, l, b, q, t).2.2.1.2), .int .u64 (M.nu (true, l, b, q, t).2.2.2.1.1.1), .int .u64 (M.nu (true, l, b, q, t).2.2.2.1.1.2), .int .u64 (M.nu (true, l, b, q, t).2.2.2.1.2.1), .int .u64 (M.nu (true, l, b, q, t).2.2.2.1.2.2), .int .i64 (true, l, b, q, t).2.2.2.2] 29)).alloc (.cells #[.bool (true, l', b', q', t').1, .bool (true, l', b', q', t').2.1, .int .u64 (M.nu (true, l', b', q', t').2.2.1.1), .int .u64 (M.nu (true, l', b', q', t').2.2.1.2), .int .u64 (M.nu (true, l', b', q', t').2.2.2.1.1.1), .int .u64 (M.nu (true, l', b', q', t').2.2.2.1.1.2), .int .u64 (M.nu (true, l', b', q', t').2.2.2.1.2.1), .int .u64 (M.nu (true, l', b', q', t').2.2.2.1.2.2), .int .i64 (true, l', b', q', t').2.2.2.2] 29))
  have B0 := hidq (show Below w.heap.size w ((w.alloc (.cells #[.bool (true, l, b, q, t).1, .bool (true, l, b, q, t).2.1, .int .u64 (M.nu (true, l, b, q, t).2.2.1.1), .int .u64 (M.nu (true, l, b, q, t).2.2.1.2), .int .u64 (M.nu (true, l, b, q, t).2.2.2.1.1.1), .int .u64 (M.nu (true, l, b, q, t).2.2.2.1.1.2), .int .u64 (M.nu (true, l, b, q, t).2.2.2.1.2.1), .int .u64 (M.nu (true, l, b, q, t).2.2.2.1.2.2), .int .i64 (true, l, b, q, t).2.2.2.2] 29)).alloc (.cells #[.bool (true, l', b', q', t').1, .bool (true, l', b', q', t').2.1, .int .u64 (M.nu (true, l', b', q', t').2.2.1.1), .int .u64 (M.nu (true, l', b', q', t').2.2.1.2), .int .u64 (M.nu (true, l', b', q', t').2.2.2.1.1.1), .int .u64 (M.nu (true, l', b', q', t').2.2.2.1.1.2), .int .u64 (M.nu (true, l', b', q', t').2.2.2.1.2.1), .int .u64 (M.nu (true, l', b', q', t').2.2.2.1.2.2), .int .i64 (true, l', b', q', t').2.2.2.2] 29)) from below_one (below_one (Below.refl _ _)))
  have FA := hidq u.oks
  obtain ⟨ao, cap, rfl, p1, p2, _⟩ := u.form
  obtain ⟨ah, caph, rfl, _, _, _⟩ := uh.form
  have hli : ¬ (40 : Int) < A.length := by omega
  have hhi : ¬ (60 : Int) < H.length := by omega
  have T2 := hidq trivial
  clear u uh FA
  dsimp only at Xk0 Xv0 UA0 IH0 B0 ⊢
  generalize A.length = n at *
  generalize H.length = m at *
  rcases he with rfl | ⟨rfl, rfl⟩
  all_goals go_enter Try.func7, Try.ntmps7
  all_goals go_wp2_with (first | (go_at_call 9; refine (live7_any _).mono ?_; rintro e w1 ⟨rfl, hb1⟩; have Yk1 := Xk0.out.below hb1; have ck1 := Yk1.cells; have lk1 := Yk1.lt; have Xk1 := hidq (Yk1); have Yv1 := Xv0.out.below hb1; have cv1 := Yv1.cells; have lv1 := Yv1.lt; have Xv1 := hidq (Yv1); have UA1 := hidq (UA0.out.below hb1); have IH1 := hidq (IH0.out.below hb1); have B1 := hidq (below_trans B0.out hb1); clear hb1 Yk1 Yv1) | (go_at_call 23; clear T2; refine (C1.out _ _ _ UA1.out IH1.out).mono ?_; rintro e w2 ⟨rfl, hb2⟩; have Yk2 := Xk1.out.below hb2; have ck2 := Yk2.cells; have lk2 := Yk2.lt; have Xk2 := hidq (Yk2); have Yv2 := Xv1.out.below hb2; have cv2 := Yv2.cells; have lv2 := Yv2.lt; have Xv2 := hidq (Yv2); have UA2 := hidq (UA1.out.below hb2); have IH2 := hidq (IH1.out.below hb2); have B2 := hidq (below_trans B1.out hb2); clear hb2 Yk2 Yv2) | (go_at_call 23; refine (C2.out _ _ _ UA2.out IH2.out).mono ?_; rintro e w3 ⟨rfl, hb3⟩; have Yk3 := Xk2.out.below hb3; have ck3 := Yk3.cells; have lk3 := Yk3.lt; have Xk3 := hidq (Yk3); have Yv3 := Xv2.out.below hb3; have cv3 := Yv3.cells; have lv3 := Yv3.lt; have Xv3 := hidq (Yv3); have UA3 := hidq (UA2.out.below hb3); have IH3 := hidq (IH2.out.below hb3); have B3 := hidq (below_trans B2.out hb3); clear hb3 Yk3 Yv3))
  all_goals go_ret
  all_goals exact ⟨rfl, B3.out⟩
theorem valueKnown_walk (A : List M.Tm) (vl : Value) (H : List Int) (vh : Value) (k v : M.Val) (i : Int) (w : World) (u : Ts w vl A) (uh : Is w vh H) (fk : M.fitI k.2.2.2.2) (fv : M.fitI v.2.2.2.2) (_ : -9223372036854775808 ≤ i) (_ : i ≤ 9223372036854775807) :
    Calls Try.prog 7 #[vl, vh, valV k, valV v, .int .i64 i] w fun e w' => e = .returned (.bool true) ∧ Below w.heap.size w w' := by
  unfold valV
  by_cases hl : A.length ≤ 40
  · by_cases hh : H.length ≤ 60
    · obtain ⟨s, l, b, q, t⟩ := k
      cases s with
      | false => exact known_ko hl hh w u uh
      | true =>
        obtain ⟨s', l', b', q', t'⟩ := v
        cases s' with
        | false => exact known_vo hl hh w u uh
        | true =>
          obtain ⟨r1, e1, C1, d1⟩ := knows_one A H t fk
          obtain ⟨r2, e2, C2, d2⟩ := knows_one A H t' fv
          rcases d1 with ⟨rfl, hH, d1⟩ | rfl
          · rcases d2 with ⟨rfl, _, d2⟩ | rfl
            · cases r1 with
              | false => exact known_ff fk fv hl hh hH C1 C2 w u uh
              | true =>
                cases r2 with
                | false => exact known_tf fk fv hl hh hH (d1.1 rfl) C1 C2 w u uh
                | true => exact known_tt fk fv hl hh hH (d1.1 rfl) (d2.1 rfl) C1 C2 w u uh
            · exact known_err hl hh (.inr ⟨rfl, rfl⟩) C1 C2 w u uh
          · exact known_err hl hh (.inl rfl) C1 C2 w u uh
    · exact known_more hl hh w u uh
  · exact known_long hl w u uh
end Go.Proofs.Ytljaahheofikpaa
