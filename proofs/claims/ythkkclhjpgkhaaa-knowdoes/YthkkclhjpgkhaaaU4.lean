/-
  What the program's Check, checkPlace and Find come to at every input. Conditions: the slice holds terms.
-/
import Derived.Test.YthkkclhjpgkhaaaU3
namespace Go.Proofs.Ythkkclhjpgkhaaa
open Go.RowKit
theorem places_ok {A : List M.Tm} (hA : M.Ok A) {v : Value} (w : World) (u : Ts w v A) :
    Calls Try.prog 50 #[v] w fun e w' => ∃ b, e = .returned (.tuple #[.map (some b), .int .i64 0]) ∧ Mp w' b (kpl A A.length) ∧ Below w.heap.size w w' := by
  refine (placesOf_any A v w u).mono fun e w' h => ?_
  rcases h with ⟨_, h⟩ | ⟨h, _⟩
  · exact h
  · exact absurd hA h
theorem places_no {A : List M.Tm} (hA : ¬ M.Ok A) {v : Value} (w : World) (u : Ts w v A) :
    Calls Try.prog 50 #[v] w fun e w' => e = .returned (.tuple #[.map none, .int .i64 1]) ∧ Below w.heap.size w w' := by
  refine (placesOf_any A v w u).mono fun e w' h => ?_
  rcases h with ⟨h, _⟩ | ⟨_, h⟩
  · exact absurd h hA
  · exact h
set_option maxRecDepth 100000 in
theorem check_any (A : List M.Tm) (v : Value) (w : World) (u : Ts w v A) :
    Calls Try.prog 44 #[v] w fun e w' => e = .returned (.int .i64 (M.chkE A)) ∧ Below w.heap.size w w' := by
  have U := hidq u
  clear u
  by_cases hA : M.Ok A
  · have e : M.chkE A = 0 := if_pos hA
    rw [e]
    have HA := hidq hA
    clear hA e
    go_enter Try.func44, Try.ntmps44
    go_wp2_with (first | (go_at_call 50; refine (places_ok HA.out _ U.out).mono ?_; rintro r w1 ⟨b, rfl, hm1, hb1⟩; have B1 := hidq hb1; clear hm1 hb1))
    go_ret
    exact ⟨rfl, B1.out⟩
  · have e : M.chkE A = 1 := if_neg hA
    rw [e]
    have HA := hidq hA
    clear hA e
    go_enter Try.func44, Try.ntmps44
    go_wp2_with (first | (go_at_call 50; refine (places_no HA.out _ U.out).mono ?_; rintro r w1 ⟨rfl, hb1⟩; have B1 := hidq hb1; clear hb1))
    go_ret
    exact ⟨rfl, B1.out⟩
theorem check_eq {A : List M.Tm} {r : Int} (h : M.chkE A = r) {v : Value} (w : World) (u : Ts w v A) :
    Calls Try.prog 44 #[v] w fun e w' => e = .returned (.int .i64 r) ∧ Below w.heap.size w w' := by subst h; exact check_any A v w u
set_option maxRecDepth 100000 in
theorem checkPlace_any (A : List M.Tm) (i : Int) (v1 : Value) (w : World) (u1 : Ts w v1 A) :
    Calls Try.prog 41 #[v1, .int .i64 i] w fun e w' => e = .returned (.int .i64 (M.deepE A i)) ∧ Below w.heap.size w w' := by
  obtain ⟨a1, c1, rfl, hp1, hp2, hp4⟩ := u1.form
  have U0 := hidq u1
  clear hp4 u1
  by_cases hc : M.Ok A
  · have HC : Hid (M.chkE A = 0) := if_pos hc
    by_cases h0 : i < 0
    · have e : M.deepE A i = 1 := if_neg fun h => by have := M.thr_iff.1 h; omega
      rw [e]
      clear hc e
      generalize A.length = n at *
      go_enter Try.func41, Try.ntmps41
      go_wp2_with (first | (go_at_call 44; refine (check_eq HC.out _ U0.out).mono ?_; rintro r w1 ⟨rfl, hb1⟩))
      go_ret
      exact ⟨rfl, hb1⟩
    · by_cases h1 : (A.length : Int) ≤ i
      · have e : M.deepE A i = 1 := if_neg fun h => by have := M.thr_iff.1 h; omega
        rw [e]
        clear hc e
        generalize A.length = n at *
        go_enter Try.func41, Try.ntmps41
        go_wp2_with (first | (go_at_call 44; refine (check_eq HC.out _ U0.out).mono ?_; rintro r w1 ⟨rfl, hb1⟩))
        go_ret
        exact ⟨rfl, hb1⟩
      · have e : M.deepE A i = 0 := if_pos (M.thr_iff.2 ⟨hc, by omega, by omega⟩)
        rw [e]
        clear hc e
        generalize A.length = n at *
        go_enter Try.func41, Try.ntmps41
        go_wp2_with (first | (go_at_call 44; refine (check_eq HC.out _ U0.out).mono ?_; rintro r w1 ⟨rfl, hb1⟩))
        go_ret
        exact ⟨rfl, hb1⟩
  · have HC : Hid (M.chkE A = 1) := if_neg hc
    have e : M.deepE A i = 1 := if_neg fun h => hc (M.thr_iff.1 h).1
    rw [e]
    clear hc e
    generalize A.length = n at *
    go_enter Try.func41, Try.ntmps41
    go_wp2_with (first | (go_at_call 44; refine (check_eq HC.out _ U0.out).mono ?_; rintro r w1 ⟨rfl, hb1⟩))
    go_ret
    exact ⟨rfl, hb1⟩
theorem checkPlace_eq {A : List M.Tm} {i r : Int} (h : M.deepE A i = r) {v : Value} (w : World) (u : Ts w v A) :
    Calls Try.prog 41 #[v, .int .i64 i] w fun e w' => e = .returned (.int .i64 r) ∧ Below w.heap.size w w' := by subst h; exact checkPlace_any A i v w u
end Go.Proofs.Ythkkclhjpgkhaaa
