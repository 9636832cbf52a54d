/-
  What the program's Check, checkPlace and Find come to at every input. Conditions: the slice holds terms.
-/
import Derived.Test.YtkggcfkjmmijbaaDoorU3
namespace Go.Proofs.YtkggcfkjmmijbaaDoor
open Go.RowKit
theorem places_ok {A : List M.Tm} (hA : M.Ok A) {v : Value} (w : World) (u : Ts w v A) :
    Calls Tryd.prog 25 #[v] w fun e w' => ∃ b, e = .returned (.tuple #[.map (some b), .int .i64 0]) ∧ Mp w' b (kpl A A.length) ∧ Below w.heap.size w w' := by
  refine (placesOf_any A v w u).mono fun e w' h => ?_
  rcases h with ⟨_, h⟩ | ⟨h, _⟩
  · exact h
  · exact absurd hA h
theorem places_no {A : List M.Tm} (hA : ¬ M.Ok A) {v : Value} (w : World) (u : Ts w v A) :
    Calls Tryd.prog 25 #[v] w fun e w' => e = .returned (.tuple #[.map none, .int .i64 1]) ∧ Below w.heap.size w w' := by
  refine (placesOf_any A v w u).mono fun e w' h => ?_
  rcases h with ⟨h, _⟩ | ⟨_, h⟩
  · exact absurd h hA
  · exact h
set_option maxRecDepth 100000 in
theorem check_any (A : List M.Tm) (v : Value) (w : World) (u : Ts w v A) :
    Calls Tryd.prog 14 #[v] w fun e w' => e = .returned (.int .i64 (M.chkE A)) ∧ Below w.heap.size w w' := by
  have U := hidq u
  clear u
  by_cases hA : M.Ok A
  · have e : M.chkE A = 0 := if_pos hA
    rw [e]
    have HA := hidq hA
    clear hA e
    go_enter Tryd.func14, Tryd.ntmps14
    go_wp2_with (first | (go_at_call 25; refine (places_ok HA.out _ U.out).mono ?_; rintro r w1 ⟨b, rfl, hm1, hb1⟩; have B1 := hidq hb1; clear hm1 hb1))
    go_ret
    exact ⟨rfl, B1.out⟩
  · have e : M.chkE A = 1 := if_neg hA
    rw [e]
    have HA := hidq hA
    clear hA e
    go_enter Tryd.func14, Tryd.ntmps14
    go_wp2_with (first | (go_at_call 25; refine (places_no HA.out _ U.out).mono ?_; rintro r w1 ⟨rfl, hb1⟩; have B1 := hidq hb1; clear hb1))
    go_ret
    exact ⟨rfl, B1.out⟩
theorem check_eq {A : List M.Tm} {r : Int} (h : M.chkE A = r) {v : Value} (w : World) (u : Ts w v A) :
    Calls Tryd.prog 14 #[v] w fun e w' => e = .returned (.int .i64 r) ∧ Below w.heap.size w w' := by subst h; exact check_any A v w u
set_option maxRecDepth 100000 in
theorem checkPlace_any (A : List M.Tm) (i : Int) (v1 : Value) (w : World) (u1 : Ts w v1 A) :
    Calls Tryd.prog 32 #[v1, .int .i64 i] w fun e w' => e = .returned (.int .i64 (M.deepE A i)) ∧ Below w.heap.size w w' := by
  obtain ⟨a1, c1, rfl, hp1, hp2, hp4⟩ := u1.form
  have U0 := hidq u1
  clear hp4 u1
  by_cases hc : M.Ok A
  · have HC : Hid (M.chkE A = 0) := if_pos hc
    by_cases h0 : i < 0
    · have e : M.deepE A i = 1 := if_neg fun h => by have := M.thr_iff.1 h; omega
      rw [e]
      clear hc e
      generalize A.length = n at *
      go_enter Tryd.func32, Tryd.ntmps32
      go_wp2_with (first | (go_at_call 14; refine (check_eq HC.out _ U0.out).mono ?_; rintro r w1 ⟨rfl, hb1⟩))
      go_ret
      exact ⟨rfl, hb1⟩
    · by_cases h1 : (A.length : Int) ≤ i
      · have e : M.deepE A i = 1 := if_neg fun h => by have := M.thr_iff.1 h; omega
        rw [e]
        clear hc e
        generalize A.length = n at *
        go_enter Tryd.func32, Tryd.ntmps32
        go_wp2_with (first | (go_at_call 14; refine (check_eq HC.out _ U0.out).mono ?_; rintro r w1 ⟨rfl, hb1⟩))
        go_ret
        exact ⟨rfl, hb1⟩
      · have e : M.deepE A i = 0 := if_pos (M.thr_iff.2 ⟨hc, by omega, by omega⟩)
        rw [e]
        clear hc e
        generalize A.length = n at *
        go_enter Tryd.func32, Tryd.ntmps32
        go_wp2_with (first | (go_at_call 14; refine (check_eq HC.out _ U0.out).mono ?_; rintro r w1 ⟨rfl, hb1⟩))
        go_ret
        exact ⟨rfl, hb1⟩
  · have HC : Hid (M.chkE A = 1) := if_neg hc
    have e : M.deepE A i = 1 := if_neg fun h => hc (M.thr_iff.1 h).1
    rw [e]
    clear hc e
    generalize A.length = n at *
    go_enter Tryd.func32, Tryd.ntmps32
    go_wp2_with (first | (go_at_call 14; refine (check_eq HC.out _ U0.out).mono ?_; rintro r w1 ⟨rfl, hb1⟩))
    go_ret
    exact ⟨rfl, hb1⟩
theorem checkPlace_eq {A : List M.Tm} {i r : Int} (h : M.deepE A i = r) {v : Value} (w : World) (u : Ts w v A) :
    Calls Tryd.prog 32 #[v, .int .i64 i] w fun e w' => e = .returned (.int .i64 r) ∧ Below w.heap.size w w' := by subst h; exact checkPlace_any A i v w u
set_option maxRecDepth 100000 in
set_option maxHeartbeats 4000000 in
theorem find_any (A : List M.Tm) (t : M.Tm) (ht : M.fitT t) (v1 : Value) (w : World) (u1 : Ts w v1 A) :
    Calls Tryd.prog 9 #[v1, .agg #[.int .i64 t.1, .int .i64 t.2.1, .int .i64 t.2.2]] w fun e w' => e = .returned (.tuple #[.int .i64 (M.findV A t), .int .i64 (M.findE A t)]) ∧ Below w.heap.size w w' := by
  obtain ⟨a1, c1, rfl, hp1, hp2, hp4⟩ := u1.form
  have HB := hidq (below_one (o := .cells #[.int .i64 t.1, .int .i64 t.2.1, .int .i64 t.2.2] 24) (Below.refl w.heap.size w))
  have X0 := hidq (Bx3.new w t)
  have U0 := hidq (u1.alloc (.cells #[.int .i64 t.1, .int .i64 t.2.1, .int .i64 t.2.2] 24))
  have HF := hidq ht
  clear hp4 u1 ht
  by_cases hc : M.Ok A
  · have HA := hidq hc
    by_cases hm : M.mayB t A.length = true
    · have HM := hidq hm
      have HK := hidq (kfind_kpl A t A.length (Nat.le_refl _))
      rw [List.take_length] at HK
      cases hp : M.plc t A with
      | none =>
        have e1 : M.findE A t = 4 := by unfold M.findE; rw [if_pos ⟨hc, hm⟩, if_pos hp]
        have e2 : M.findV A t = 0 := by unfold M.findV; rw [e1]; rfl
        rw [e1, e2]
        rw [hp, Option.map_none] at HK
        clear hp hm hc e1 e2
        go_enter Tryd.func9, Tryd.ntmps9
        go_wp2_with (first | (go_at_call 25; refine (places_ok HA.out _ U0.out).mono ?_; rintro r w1 ⟨bm, rfl, hm1, hb1⟩; have X1 := X0.out.below hb1; have c1 := X1.cells; have M1 := hidq hm1; have B1 := hidq (below_trans HB.out hb1); clear hb1 hm1) | (go_at_call 26; refine (mayBe_eq HM.out _).mono ?_; rintro r w2 ⟨rfl, hb2⟩; have M2 := hidq (M1.out.below hb2); have hlook := run_lookT t HF.out M2.out; rw [HK.out] at hlook; have X2 := X1.below hb2; have c2 := X2.cells; have B2 := hidq (below_trans B1.out hb2); clear hb2; unfold tmV at hlook))
        go_ret2
        exact ⟨rfl, B2.out⟩
      | some i =>
        have e1 : M.findE A t = 0 := by unfold M.findE; rw [if_pos ⟨hc, hm⟩, if_neg (by rw [hp]; simp)]
        have e2 : M.findV A t = i := by unfold M.findV; rw [e1, if_pos rfl, M.plcI_some hp]
        rw [e1, e2]
        rw [hp, Option.map_some] at HK
        clear hp hm hc e1 e2
        go_enter Tryd.func9, Tryd.ntmps9
        go_wp2_with (first | (go_at_call 25; refine (places_ok HA.out _ U0.out).mono ?_; rintro r w1 ⟨bm, rfl, hm1, hb1⟩; have X1 := X0.out.below hb1; have c1 := X1.cells; have M1 := hidq hm1; have B1 := hidq (below_trans HB.out hb1); clear hb1 hm1) | (go_at_call 26; refine (mayBe_eq HM.out _).mono ?_; rintro r w2 ⟨rfl, hb2⟩; have M2 := hidq (M1.out.below hb2); have hlook := run_lookT t HF.out M2.out; rw [HK.out] at hlook; have X2 := X1.below hb2; have c2 := X2.cells; have B2 := hidq (below_trans B1.out hb2); clear hb2; unfold tmV at hlook))
        go_ret2
        exact ⟨rfl, B2.out⟩
    · have HM := hidq (show M.mayB t A.length = false by simpa using hm)
      have e1 : M.findE A t = 1 := by unfold M.findE; rw [if_neg fun h => hm h.2]
      have e2 : M.findV A t = 0 := by unfold M.findV; rw [e1]; rfl
      rw [e1, e2]
      clear hm hc e1 e2
      go_enter Tryd.func9, Tryd.ntmps9
      go_wp2_with (first | (go_at_call 25; refine (places_ok HA.out _ U0.out).mono ?_; rintro r w1 ⟨bm, rfl, hm1, hb1⟩; have X1 := X0.out.below hb1; have c1 := X1.cells; have M1 := hidq hm1; have B1 := hidq (below_trans HB.out hb1); clear hb1 hm1) | (go_at_call 26; refine (mayBe_eq HM.out _).mono ?_; rintro r w2 ⟨rfl, hb2⟩; have B2 := hidq (below_trans B1.out hb2); clear hb2))
      go_ret2
      exact ⟨rfl, B2.out⟩
  · have HA := hidq hc
    have e1 : M.findE A t = 1 := by unfold M.findE; rw [if_neg fun h => hc h.1]
    have e2 : M.findV A t = 0 := by unfold M.findV; rw [e1]; rfl
    rw [e1, e2]
    clear hc e1 e2
    go_enter Tryd.func9, Tryd.ntmps9
    go_wp2_with (first | (go_at_call 25; refine (places_no HA.out _ U0.out).mono ?_; rintro r w1 ⟨rfl, hb1⟩; have B1 := hidq (below_trans HB.out hb1); clear hb1))
    go_ret2
    exact ⟨rfl, B1.out⟩
theorem find_eq {A : List M.Tm} {t : M.Tm} (ht : M.fitT t) {x n : Int} (h : M.findV A t = x) (hn : M.findE A t = n) {v : Value} (w : World) (u : Ts w v A) :
    Calls Tryd.prog 9 #[v, .agg #[.int .i64 t.1, .int .i64 t.2.1, .int .i64 t.2.2]] w fun e w' => e = .returned (.tuple #[.int .i64 x, .int .i64 n]) ∧ Below w.heap.size w w' := by subst h; subst hn; exact find_any A t ht v w u
end Go.Proofs.YtkggcfkjmmijbaaDoor
