/-
  The law SteinerMany returns true at every input: a tree has as many nodes as hang on it, as there are forks, and leaves of the set, together. Conditions: the slice holds numbers, the numbers fit their kinds.
-/
import Derived.Test.YthmiieiajfghnaaZO10
import Derived.Test.YthmiieiajfghnaaZO11
import Derived.Test.YthmiieiajfghnaaZO9
import Derived.Test.YthmiieiajfghnaaZOQ
import Derived.Test.YthmiieiajfghnaaZTR
namespace Go.Proofs.Ythmiieiajfghnaa
open Go.RowKit
set_option maxRecDepth 100000 in
set_option maxHeartbeats 4000000 in
theorem steinerMany_long (h : Int) (L : List Int) (v : Value) (w : World) (hu : Us w v L) (hl : ¬ L.length ≤ 30) :
    Calls Try.prog 6 #[.int .i64 h, v] w fun e w' => e = .returned (.bool true) ∧ Below w.heap.size w w' := by
  obtain ⟨ao, cap, rfl, -⟩ := us_view hu
  have hB0 := Below.refl w.heap.size w
  have hli : (30 : Int) < L.length := by omega
  clear hl hu
  have T1 := hidq trivial
  go_enter Try.func6, Try.ntmps6
  go_wp2_with (first | (go_at_call 9; clear T1; refine (live9_any _).mono ?_; rintro e w1 ⟨rfl, hb1⟩; have hB1 := below_trans hB0 hb1))
  go_ret
  exact ⟨rfl, hB1⟩
set_option maxRecDepth 100000 in
set_option maxHeartbeats 4000000 in
theorem steinerMany_no (h : Int) (L : List Int) (v : Value) (w : World) (hu : Us w v L) (hl : L.length ≤ 30) (hs : M.setB h L = false) :
    Calls Try.prog 6 #[.int .i64 h, v] w fun e w' => e = .returned (.bool true) ∧ Below w.heap.size w w' := by
  obtain ⟨ao, cap, rfl, -⟩ := us_view hu
  have hB0 := Below.refl w.heap.size w
  have U0 := hu
  have hli : ¬ (30 : Int) < L.length := by omega
  have e : M.setE h L = 1 := by unfold M.setE; rw [hs]; rfl
  have MC := hidq (fun W v (u : Us W v L) => stMany_any h L v W u)
  have HC := hidq (fun W v (u : Us W v L) => stHang_any h L v W u)
  have FC := hidq (fun W v (u : Us W v L) => stForks_any h L v W u)
  rw [show M.tmV h L = 0 by unfold M.tmV; rw [if_neg (by rw [e]; decide)], e] at MC
  rw [show M.thV h L = [] by unfold M.thV; rw [if_neg (by rw [e]; decide)], e] at HC
  rw [show M.tfV h L = [] by unfold M.tfV; rw [if_neg (by rw [e]; decide)], e] at FC
  clear hs hl hu e
  have T1 := hidq trivial
  have T2 := hidq trivial
  have T3 := hidq trivial
  have T4 := hidq trivial
  go_enter Try.func6, Try.ntmps6
  go_wp2_with (first | (go_at_call 9; clear T1; refine (live9_any _).mono ?_; rintro e w1 ⟨rfl, hb1⟩; have U1 := (U0.below hb1); clear U0; have hB1 := below_trans hB0 hb1) | (go_at_call 12; clear T2; refine (MC.out _ _ U1).mono ?_; rintro e w2 ⟨rfl, hb2⟩; have U2 := (U1.below hb2); clear U1; have hB2 := below_trans hB1 hb2) | (go_at_call 18; clear T3; refine (HC.out _ _ U2).mono ?_; rintro e w3 ⟨x, rfl, u, hb3⟩; have U3 := (U2.below hb3); clear U2; have X3 := (u); have hB3 := below_trans hB2 hb3; obtain ⟨aX3, cX3, rfl, -, vX3⟩ := us_view X3) | (go_at_call 16; clear T4; refine (FC.out _ _ U3).mono ?_; rintro e w4 ⟨y, rfl, u, hb4⟩; have U4 := (U3.below hb4); clear U3; have X4 := (X3.below hb4); clear X3; have Y4 := (u); have hB4 := below_trans hB3 hb4; obtain ⟨aY4, cY4, rfl, -, vY4⟩ := us_view Y4))
  go_ret
  exact ⟨rfl, hB4⟩
set_option maxRecDepth 100000 in
set_option maxHeartbeats 4000000 in
theorem steinerMany_nil (h : Int) (v : Value) (w : World) (hu : Us w v []) (hs : M.setB h [] = true) :
    Calls Try.prog 6 #[.int .i64 h, v] w fun e w' => e = .returned (.bool true) ∧ Below w.heap.size w w' := by
  obtain ⟨L, hL⟩ : ∃ L : List Int, L = [] := ⟨_, rfl⟩
  rw [← hL] at hu hs
  obtain ⟨H, hH⟩ : ∃ H : List Int, H = [1] := ⟨_, rfl⟩
  have hll : L.length = 0 := by rw [hL]; rfl
  obtain ⟨ao, cap, rfl, -⟩ := us_view hu
  have hB0 := Below.refl w.heap.size w
  have U0 := hu
  have hli : ¬ (30 : Int) < L.length := by omega
  have e : M.setE h L = 0 := M.setE_zero.2 hs
  have MC := hidq (fun W v (u : Us W v L) => stMany_any h L v W u)
  have HC := hidq (fun W v (u : Us W v L) => stHang_any h L v W u)
  have FC := hidq (fun W v (u : Us W v L) => stForks_any h L v W u)
  rw [show M.tmV h L = 0 by unfold M.tmV; rw [if_pos e, hL, M.tree_nil]; rfl, e] at MC
  rw [show M.thV h L = H by unfold M.thV; rw [if_pos e, if_pos hll, hH], e] at HC
  rw [e] at FC
  have hx0 : 0 < H.length := by rw [hH]; decide
  have hx1 : (H.length : Int) = 1 := by rw [hH]; rfl
  have hx2 : H[0]?.getD 0 = 1 := by rw [hH]; rfl
  have hli0 : (L.length : Int) = 0 := by omega
  generalize M.tfV h L = F at *
  clear hs hu e hH hL hll
  have T1 := hidq trivial
  have T2 := hidq trivial
  have T3 := hidq trivial
  have T4 := hidq trivial
  go_enter Try.func6, Try.ntmps6
  go_wp2_with (first | (go_at_call 9; clear T1; refine (live9_any _).mono ?_; rintro e w1 ⟨rfl, hb1⟩; have U1 := (U0.below hb1); clear U0; have hB1 := below_trans hB0 hb1) | (go_at_call 12; clear T2; refine (MC.out _ _ U1).mono ?_; rintro e w2 ⟨rfl, hb2⟩; have U2 := (U1.below hb2); clear U1; have hB2 := below_trans hB1 hb2) | (go_at_call 18; clear T3; refine (HC.out _ _ U2).mono ?_; rintro e w3 ⟨x, rfl, u, hb3⟩; have U3 := (U2.below hb3); clear U2; have X3 := (u); have hB3 := below_trans hB2 hb3; obtain ⟨aX3, cX3, rfl, -, vX3⟩ := us_view X3; obtain ⟨bx, ox, rfl, -⟩ := vX3 hx0; have hxc := X3.cellAt 0 hx0; rw [hx2] at hxc; simp only [Nat.add_zero] at hxc; have hxl := X3) | (go_at_call 16; clear T4; refine (FC.out _ _ U3).mono ?_; rintro e w4 ⟨y, rfl, u, hb4⟩; have U4 := (U3.below hb4); clear U3; have X4 := (X3.below hb4); clear X3; have hxd := (hxl.below hb4).cellAt 0 hx0; rw [hx2] at hxd; simp only [Nat.add_zero] at hxd; have Y4 := (u); have hB4 := below_trans hB3 hb4; obtain ⟨aY4, cY4, rfl, -, vY4⟩ := us_view Y4))
  go_ret
  exact ⟨rfl, hB4⟩
set_option maxRecDepth 100000 in
set_option maxHeartbeats 4000000 in
theorem steinerMany_yes (h : Int) (L : List Int) (v : Value) (w : World) (hu : Us w v L) (hl : L.length ≤ 30) (hs : M.setB h L = true) (h0 : L ≠ []) :
    Calls Try.prog 6 #[.int .i64 h, v] w fun e w' => e = .returned (.bool true) ∧ Below w.heap.size w w' := by
  obtain ⟨ao, cap, rfl, -⟩ := us_view hu
  have hB0 := Below.refl w.heap.size w
  have U0 := hu
  have hli : ¬ (30 : Int) < L.length := by omega
  have e : M.setE h L = 0 := M.setE_zero.2 hs
  obtain ⟨c1, c2⟩ := M.counts hs h0
  obtain ⟨s1, s2, -⟩ := M.set_of hs
  have hne : ¬ L.length = 0 := fun e => h0 (List.eq_nil_of_length_eq_zero e)
  have t3 := (M.tree_facts hs).2.2
  have h1 : L.length = 1 → ((M.tree h L).length : Int) = h + 1 := fun e1 => by
    obtain ⟨x, rfl⟩ := List.length_eq_one_iff.1 e1
    exact M.tree_one hs
  have MC := hidq (fun W v (u : Us W v L) => stMany_any h L v W u)
  have HC := hidq (fun W v (u : Us W v L) => stHang_any h L v W u)
  have FC := hidq (fun W v (u : Us W v L) => stForks_any h L v W u)
  rw [show M.tmV h L = (M.tree h L).length by unfold M.tmV; rw [if_pos e], e] at MC
  rw [show M.thV h L = (M.tree h L).flatMap (M.outk h L) by unfold M.thV; rw [if_pos e, if_neg hne], e] at HC
  rw [show M.tfV h L = (M.tree h L).filter (M.frk h L) by unfold M.tfV; rw [if_pos e], e] at FC
  obtain ⟨N, hN⟩ : ∃ N : Int, ((M.tree h L).length : Int) = N := ⟨_, rfl⟩
  have hN1 : N ≤ 40000 := by omega
  rw [hN] at MC c2 h1
  generalize (M.tree h L).flatMap (M.outk h L) = H at *
  generalize (M.tree h L).filter (M.frk h L) = F at *
  have hw1 : IntKind.i64.wrap ((H.length : Int) + F.length) = (H.length : Int) + F.length := by rw [IntKind.wrap_i64]; omega
  have hw2 : IntKind.i64.wrap ((H.length : Int) + F.length + L.length) = N := by rw [IntKind.wrap_i64]; omega
  have hw3 : IntKind.i64.wrap (h + 1) = h + 1 := by rw [IntKind.wrap_i64]; omega
  have hli0 : ¬ (L.length : Int) = 0 := by omega
  have hli1 : ((L.length : Int) == 0) = false := by rw [beq_eq_false_iff_ne]; omega
  clear hs hu e t3 hN h0 hl
  by_cases g : L.length = 1
  · have g1 : (L.length : Int) = 1 := by omega
    have g2 : N = h + 1 := h1 g
    have g3 : (H.length : Int) = h := by omega
    have g5 : (F.length : Int) = 0 := by omega
    have hw4 : IntKind.i64.wrap h = h := by rw [IntKind.wrap_i64]; omega
    subst g2
    clear h1 c1 c2 g hw1 hw2
    have T1 := hidq trivial
    have T2 := hidq trivial
    have T3 := hidq trivial
    have T4 := hidq trivial
    go_enter Try.func6, Try.ntmps6
    go_wp2_with (first | (go_at_call 9; clear T1; refine (live9_any _).mono ?_; rintro e w1 ⟨rfl, hb1⟩; have U1 := (U0.below hb1); clear U0; have hB1 := below_trans hB0 hb1) | (go_at_call 12; clear T2; refine (MC.out _ _ U1).mono ?_; rintro e w2 ⟨rfl, hb2⟩; have U2 := (U1.below hb2); clear U1; have hB2 := below_trans hB1 hb2) | (go_at_call 18; clear T3; refine (HC.out _ _ U2).mono ?_; rintro e w3 ⟨x, rfl, u, hb3⟩; have U3 := (U2.below hb3); clear U2; have X3 := (u); have hB3 := below_trans hB2 hb3; obtain ⟨aX3, cX3, rfl, -, vX3⟩ := us_view X3) | (go_at_call 16; clear T4; refine (FC.out _ _ U3).mono ?_; rintro e w4 ⟨y, rfl, u, hb4⟩; have U4 := (U3.below hb4); clear U3; have X4 := (X3.below hb4); clear X3; have Y4 := (u); have hB4 := below_trans hB3 hb4; obtain ⟨aY4, cY4, rfl, -, vY4⟩ := us_view Y4))
    go_ret
    exact ⟨rfl, hB4⟩
  · have g1 : ¬ (L.length : Int) = 1 := by omega
    have g4 : ((L.length : Int) == 1) = false := by rw [beq_eq_false_iff_ne]; omega
    clear h1 c1 c2 g
    have T1 := hidq trivial
    have T2 := hidq trivial
    have T3 := hidq trivial
    have T4 := hidq trivial
    go_enter Try.func6, Try.ntmps6
    go_wp2_with (first | (go_at_call 9; clear T1; refine (live9_any _).mono ?_; rintro e w1 ⟨rfl, hb1⟩; have U1 := (U0.below hb1); clear U0; have hB1 := below_trans hB0 hb1) | (go_at_call 12; clear T2; refine (MC.out _ _ U1).mono ?_; rintro e w2 ⟨rfl, hb2⟩; have U2 := (U1.below hb2); clear U1; have hB2 := below_trans hB1 hb2) | (go_at_call 18; clear T3; refine (HC.out _ _ U2).mono ?_; rintro e w3 ⟨x, rfl, u, hb3⟩; have U3 := (U2.below hb3); clear U2; have X3 := (u); have hB3 := below_trans hB2 hb3; obtain ⟨aX3, cX3, rfl, -, vX3⟩ := us_view X3) | (go_at_call 16; clear T4; refine (FC.out _ _ U3).mono ?_; rintro e w4 ⟨y, rfl, u, hb4⟩; have U4 := (U3.below hb4); clear U3; have X4 := (X3.below hb4); clear X3; have Y4 := (u); have hB4 := below_trans hB3 hb4; obtain ⟨aY4, cY4, rfl, -, vY4⟩ := us_view Y4))
    go_ret
    exact ⟨rfl, hB4⟩
theorem steinerMany_walk (h : Int) (L : List Int) (v : Value) (w : World) (_ : -9223372036854775808 ≤ h) (_ : h ≤ 9223372036854775807) (hu : Us w v L) :
    Calls Try.prog 6 #[.int .i64 h, v] w fun e w' => e = .returned (.bool true) ∧ Below w.heap.size w w' := by
  by_cases hl : L.length ≤ 30
  · cases hs : M.setB h L with
    | false => exact steinerMany_no h L v w hu hl hs
    | true =>
      by_cases h0 : L = []
      · subst h0; exact steinerMany_nil h v w hu hs
      · exact steinerMany_yes h L v w hu hl hs h0
  · exact steinerMany_long h L v w hu hl
end Go.Proofs.Ythmiieiajfghnaa
