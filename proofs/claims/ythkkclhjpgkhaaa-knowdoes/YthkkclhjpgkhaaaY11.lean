/-
  What the closure of the program's Is comes to. Conditions: each theorem's own premises.
-/
import Derived.Test.YthkkclhjpgkhaaaY10
namespace Go.Proofs.Ythkkclhjpgkhaaa
open Go.RowKit
set_option maxRecDepth 100000 in
set_option maxHeartbeats 4000000 in
theorem is1_any (A : List M.Tm) (hA : M.Ok A) (b0 b9 B : Nat) (vt : Value) (T : Nat → Prop) (s n : Nat) (D : List Int) (k : Nat) (i : Int) (w : World) (x0 : Bxs w b0 #[.pointer (some ⟨B, 0, none⟩)] 48) (x9 : Bxs w b9 #[.int .i64 i] 3) (hM : Mind w T s B vt n D) (u : Ts w vt A) (hn : A.length = n) (hk : k < n) :
    Calls Try.prog 37 #[.int .i64 k, .pointer (some ⟨b0, 0, none⟩), .pointer (some ⟨b9, 0, none⟩)] w fun e w' => e = .returned (.bool (decide (i ∈ M.tell A D k))) ∧ Below w.heap.size w w' := by
  obtain ⟨r, hr⟩ : ∃ r, decide (i ∈ M.tell A D k) = r := ⟨_, rfl⟩
  rw [hr]
  have hl := hA.1
  rw [hn] at hl
  have HR := hidq hr
  have HA := hidq hA
  have HN := hidq hn
  have q0 := x0.cell 0
  have q9 := x9.cell 0
  have X9 := hidq (x9.below (below_d1q (Below.refl _ _)))
  have MR := hidq (hM.below (below_d1q (Below.refl _ _)))
  have U1 := hidq (u.below (below_d1q (Below.refl _ _)))
  clear hr hA hn x0 x9 hM u
  go_enter Try.func37, Try.ntmps37
  go_wp2
  go_region_with (first | (go_at_call 34; refine (tells_any A HA.out T s B vt n D k _ MR.out (U1.out) HN.out hk).mono ?_; rintro rr w4 ⟨v4, rfl, ho4, hb4⟩; have I4 := hidq (Is.of_ownq ho4 hl (M.tell_lt HA.out HN.out hk)); have c9' := (X9.out.below hb4).cell 0; have B4 := hidq hb4; clear ho4 hb4) | (go_at_call 38; refine (contains_any (M.tell A D k) i _ _ I4.out (by have := M.tell_len A D k; omega) r HR.out).mono ?_; rintro rr w5 ⟨rfl, hw5⟩; subst w5))
  all_goals go_wp2
  all_goals go_ret
  all_goals exact ⟨rfl, below_trans (below_d1q (Below.refl _ _)) B4.out⟩
end Go.Proofs.Ythkkclhjpgkhaaa
