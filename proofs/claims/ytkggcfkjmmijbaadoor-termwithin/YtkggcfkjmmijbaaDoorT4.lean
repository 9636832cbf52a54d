/-
  What the document's own Make comes to at every input. Conditions: the slice holds terms, the term's numbers fit.
-/
import Derived.Test.YtkggcfkjmmijbaaDoorT3
namespace Go.Proofs.YtkggcfkjmmijbaaDoor
open Go.RowKit
theorem rfind_eq {A : List M.Tm} {t : M.Tm} {x n : Int} (h : M.findV A t = x) (hn : M.findE A t = n) {v : Value} (w : World) (u : Ts w v A) :
    Calls Tryd.prog 10 #[v, .agg #[.int .i64 t.1, .int .i64 t.2.1, .int .i64 t.2.2]] w fun e w' => e = .returned (.tuple #[.int .i64 x, .int .i64 n]) ∧ Below w.heap.size w w' := by subst h; subst hn; exact rfind_any A t v w u
theorem Ts.one (W : World) (t : M.Tm) (h : M.fitT t) : Ts (W.alloc (.cells #[.int .i64 t.1, .int .i64 t.2.1, .int .i64 t.2.2] 24)) (.slice (some ⟨W.heap.size, 0, none⟩) 1 1) [t] := by
  refine ⟨_, _, rfl, by simp, by unfold maxLen; omega, fun x hx => by rw [List.mem_singleton] at hx; subst hx; exact h, fun _ => ⟨W.heap.size, 0, rfl, by simp, fun j hj => ?_⟩⟩
  obtain ⟨c0, c1, c2⟩ := (Bx3.new W t).cells
  have hj3 : j < 3 := hj
  match j, hj3 with
  | 0, _ => exact c0
  | 1, _ => exact c1
  | 2, _ => exact c2
theorem M.findE_cases (A : List M.Tm) (t : M.Tm) : (M.findE A t = 1 ∧ M.makeE A t = 1 ∧ M.makeL A t = [] ∧ M.makeV A t = 0) ∨
    (M.findE A t = 0 ∧ M.makeE A t = 0 ∧ M.makeL A t = A ∧ M.makeV A t = M.findV A t ∧ A.length ≤ 65536) ∨
    (M.findE A t = 4 ∧ A.length = 65536 ∧ M.makeE A t = 6 ∧ M.makeL A t = [] ∧ M.makeV A t = 0) ∨
    (M.findE A t = 4 ∧ A.length < 65536 ∧ M.makeE A t = 0 ∧ M.makeL A t = A ++ [t] ∧ M.makeV A t = A.length) := by
  by_cases h : M.Ok A ∧ M.mayB t A.length = true
  · by_cases hp : M.plc t A = none
    · have e : M.findE A t = 4 := by unfold M.findE; rw [if_pos h, if_pos hp]
      have hl := h.1.1
      by_cases h6 : A.length = 65536
      · have e2 : M.makeE A t = 6 := by unfold M.makeE; rw [if_pos e, if_pos h6]
        exact .inr (.inr (.inl ⟨e, h6, e2, by unfold M.makeL; rw [if_neg (by omega), if_neg (by omega)], by unfold M.makeV; rw [if_neg (by omega), if_neg (by omega)]⟩))
      · have e2 : M.makeE A t = 0 := by unfold M.makeE; rw [if_pos e, if_neg h6]
        exact .inr (.inr (.inr ⟨e, by omega, e2, by unfold M.makeL; rw [if_neg (by omega), if_pos e2], by unfold M.makeV; rw [if_neg (by omega), if_pos e2]⟩))
    · have e : M.findE A t = 0 := by unfold M.findE; rw [if_pos h, if_neg hp]
      exact .inr (.inl ⟨e, by unfold M.makeE; rw [if_neg (by omega), e], by unfold M.makeL; rw [if_pos e], by unfold M.makeV M.findV; rw [if_pos e, if_pos e], h.1.1⟩)
  · have e : M.findE A t = 1 := by unfold M.findE; rw [if_neg h]
    have e2 : M.makeE A t = 1 := by unfold M.makeE; rw [if_neg (by omega), e]
    exact .inl ⟨e, e2, by unfold M.makeL; rw [if_neg (by omega), if_neg (by omega)], by unfold M.makeV; rw [if_neg (by omega), if_neg (by omega)]⟩
theorem below_grownq {W w' : World} {row : Option Nat} (hg : W.grownBy w' row) (hr : row = none) : Below W.heap.size W w' := (Below.refl _ W).grown hg (Nat.le_refl _) (fun k hk => by rw [hr] at hk; cases hk)
set_option maxRecDepth 100000 in
set_option maxHeartbeats 4000000 in
theorem rmake_any (A : List M.Tm) (t : M.Tm) (ht : M.fitT t) (v1 : Value) (w : World) (u1 : Ts w v1 A) :
    Calls Tryd.prog 12 #[v1, .agg #[.int .i64 t.1, .int .i64 t.2.1, .int .i64 t.2.2]] w fun e w' => ∃ v', e = .returned (.tuple #[.int .i64 (M.makeV A t), v', .int .i64 (M.makeE A t)]) ∧ w'.ownsRow w.heap.size 24 3 v' (M.makeL A t).length (elTm.cells (M.makeL A t)) ∧ Below w.heap.size w w' := by
  obtain ⟨a1, c1, rfl, hp1, hp2, hp4⟩ := u1.form
  have HB := hidq (below_one (o := .cells #[.int .i64 t.1, .int .i64 t.2.1, .int .i64 t.2.2] 24) (Below.refl w.heap.size w))
  have X0 := hidq (Bx3.new w t)
  have U0 := hidq (u1.alloc (.cells #[.int .i64 t.1, .int .i64 t.2.1, .int .i64 t.2.2] 24))
  have HT := hidq ht
  clear hp4 u1 ht
  rcases M.findE_cases A t with ⟨e1, e2, e3, e4⟩ | ⟨e1, e2, e3, e4, e5⟩ | ⟨e1, e5, e2, e3, e4⟩ | ⟨e1, e5, e2, e3, e4⟩
  · rw [e2, e3, e4]
    have HE := hidq e1
    clear e1 e2 e3 e4
    go_enter Tryd.func12, Tryd.ntmps12
    go_wp2_with (first | (go_at_call 10; refine (rfind_eq rfl HE.out _ U0.out).mono ?_; rintro r w1 ⟨rfl, hb1⟩; have U1 := hidq (U0.out.below hb1); have X1 := X0.out.below hb1; have B1 := hidq (below_trans HB.out hb1); have cc := X1.cells; have lt1 := X1.lt; have sz1 := B1.out.size; clear hb1))
    go_ret3
    exact ⟨_, rfl, World.ownsRow_nil _ _ _ _, B1.out⟩
  · rw [e2, e3, e4]
    have HE := hidq e1
    clear e1 e2 e3 e4
    generalize hn : A.length = n at *
    go_enter Tryd.func12, Tryd.ntmps12
    go_wp2_with (first | (go_at_call 10; refine (rfind_eq rfl HE.out _ U0.out).mono ?_; rintro r w1 ⟨rfl, hb1⟩; have U1 := hidq (U0.out.below hb1); have X1 := X0.out.below hb1; have B1 := hidq (below_trans HB.out hb1); have cc := X1.cells; have lt1 := X1.lt; have sz1 := B1.out.size; clear hb1) | (at_builtin; refine wpList_append_sl (E := elTm) rfl _ _ rfl w.heap.size _ _ [] rfl (World.ownsRow_nil _ _ _ _) _ A rfl U1.out (by omega) sz1 ?_; intro v2 w2 hown2 hgrow2))
    go_ret3
    refine ⟨_, rfl, ?_, B1.out.grown hgrow2 sz1 (fun q hq => by cases hq)⟩
    rw [Nat.zero_add, List.nil_append, hn] at hown2
    exact hown2
  · rw [e2, e3, e4]
    have HE := hidq e1
    clear e1 e2 e3 e4
    generalize A.length = n at *
    have e5i : (n : Int) = 65536 := by omega
    clear e5
    go_enter Tryd.func12, Tryd.ntmps12
    go_wp2_with (first | (go_at_call 10; refine (rfind_eq rfl HE.out _ U0.out).mono ?_; rintro r w1 ⟨rfl, hb1⟩; have U1 := hidq (U0.out.below hb1); have X1 := X0.out.below hb1; have B1 := hidq (below_trans HB.out hb1); have cc := X1.cells; have lt1 := X1.lt; have sz1 := B1.out.size; clear hb1))
    go_ret3
    exact ⟨_, rfl, World.ownsRow_nil _ _ _ _, B1.out⟩
  · rw [e2, e3, e4, List.length_append, List.length_singleton]
    have HE := hidq e1
    clear e1 e2 e3 e4
    generalize hn : A.length = n at *
    have e5i : ¬ (n : Int) = 65536 := by omega
    go_enter Tryd.func12, Tryd.ntmps12
    go_wp2_with (first | (go_at_call 10; refine (rfind_eq rfl HE.out _ U0.out).mono ?_; rintro r w1 ⟨rfl, hb1⟩; have U1 := hidq (U0.out.below hb1); have X1 := X0.out.below hb1; have B1 := hidq (below_trans HB.out hb1); have cc := X1.cells; have lt1 := X1.lt; have sz1 := B1.out.size; clear hb1))
    have U1d := hidq U1.out.drew
    have X1d := hidq (show Bx3 w1.drew w.heap.size t from X1)
    have B1d := hidq (show Below w.heap.size w w1.drew from B1.out.drew)
    go_region_law (first | (refine step_append_sl (E := elTm) rfl _ _ rfl w.heap.size _ _ [] rfl (World.ownsRow_nil _ _ _ _) _ A rfl (by first | exact U1d.out | exact U1d.out.alloc _) (by omega) (by first | exact B1d.out.size | (have := B1d.out.size; simp at *; omega)) ?_; intro v7 w7 hown7 hgrow7; have hg7 := below_grownq hgrow7 rfl; have X7 : Bx3 w7 w.heap.size t := (by first | exact X1d.out.below hg7 | exact (X1d.out.alloc _).below hg7); have hb7 : Below w.heap.size w w7 := (by first | exact below_trans B1d.out hg7 | exact below_trans (below_one B1d.out) hg7); have c7 := X7.cells; have s7 := hb7.size) | (refine step_append_sl (E := elTm) rfl _ _ rfl w.heap.size _ _ ([] ++ A) rfl (by first | exact hown7 | exact hown7.alloc _) _ [t] rfl (by first | exact Ts.one _ _ HT.out | exact ((Ts.one _ _ HT.out).drew).below hg7) (by simp only [List.length_cons, List.length_nil]; omega) (by first | omega | (simp; omega)) ?_; intro v8 w8 hown8 hgrow8; have hb8 : Below w.heap.size w w8 := (by first | exact hb7.grown hgrow8 s7 (fun q hq => (hown7.lt q hq).1) | exact (below_one hb7).grown hgrow8 (by simp; omega) (fun q hq => (hown7.lt q hq).1))))
    all_goals go_wp2
    all_goals go_ret3
    all_goals refine ⟨_, rfl, ?_, hb8⟩
    all_goals rw [Nat.zero_add, List.nil_append, hn] at hown8
    all_goals exact hown8
end Go.Proofs.YtkggcfkjmmijbaaDoor
