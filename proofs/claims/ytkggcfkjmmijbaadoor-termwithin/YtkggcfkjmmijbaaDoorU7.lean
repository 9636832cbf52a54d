/-
  What the program's Make comes to at every input. Conditions: the slice holds terms.
-/
import Derived.Test.YtkggcfkjmmijbaaDoorU6
namespace Go.Proofs.YtkggcfkjmmijbaaDoor
open Go.RowKit
theorem own_lowerq {w : World} {b b' : Nat} {e : TypeId} {size : Nat} {v : Value} {n : Nat} {xs : List Value} (h : w.ownsRow b e size v n xs) (hb : b' ≤ b) : w.ownsRow b' e size v n xs := by
  refine ⟨h.1, ?_⟩
  rcases h.2 with hn | ⟨g, cap, cur, h1, h2, rest⟩
  · exact .inl hn
  · exact .inr ⟨g, cap, cur, h1, Nat.le_trans hb h2, rest⟩
/-- the call that lays a list and one term behind it into new memory -/
theorem concat_two (A : List M.Tm) (t : M.Tm) (ht : M.fitT t) (hl : A.length ≤ 65536) (v : Value) (w : World) (u : Ts w v A) :
    Calls Tryd.prog 30 #[.slice (some ⟨w.heap.size + 1, 0, none⟩) 2 2] ((w.alloc (.cells #[.int .i64 t.1, .int .i64 t.2.1, .int .i64 t.2.2] 24)).alloc (.cells #[v, .slice (some ⟨w.heap.size, 0, none⟩) 1 1] 22)) fun e w' => ∃ v', e = .returned v' ∧ w'.ownsRow w.heap.size 24 3 v' (A.length + 1) (elTm.cells (A ++ [t])) ∧ Below w.heap.size w w' := by
  have hb : Below w.heap.size w ((w.alloc (.cells #[.int .i64 t.1, .int .i64 t.2.1, .int .i64 t.2.2] 24)).alloc (.cells #[v, .slice (some ⟨w.heap.size, 0, none⟩) 1 1] 22)) := below_one (below_one (Below.refl _ _))
  have hsz : ((w.alloc (.cells #[.int .i64 t.1, .int .i64 t.2.1, .int .i64 t.2.2] 24)).alloc (.cells #[v, .slice (some ⟨w.heap.size, 0, none⟩) 1 1] 22)).heap.size = w.heap.size + 2 := by simp
  have hblk := heap_alloc_new (w.alloc (.cells #[.int .i64 t.1, .int .i64 t.2.1, .int .i64 t.2.2] 24)) (.cells #[v, .slice (some ⟨w.heap.size, 0, none⟩) 1 1] 22)
  rw [show (w.alloc (.cells #[.int .i64 t.1, .int .i64 t.2.1, .int .i64 t.2.2] 24)).heap.size = w.heap.size + 1 by simp] at hblk
  have hone : Ts ((w.alloc (.cells #[.int .i64 t.1, .int .i64 t.2.1, .int .i64 t.2.2] 24)).alloc (.cells #[v, .slice (some ⟨w.heap.size, 0, none⟩) 1 1] 22)) (.slice (some ⟨w.heap.size, 0, none⟩) 1 1) [t] := by
    refine Sl.alloc (Sl.of_own (base := 0) (e := 24) (n := 1) ⟨rfl, .inr ⟨w.heap.size, 1, _, rfl, Nat.zero_le _, heap_alloc_new w _, Nat.le_refl _, by unfold maxLen; omega, rfl, rfl⟩⟩ ?_) _
    intro x hx
    obtain rfl : x = t := by simpa using hx
    exact ht
  have hf : ([A, [t]] : List (List M.Tm)).flatten = A ++ [t] := by simp
  have hc := concatT_any [v, .slice (some ⟨w.heap.size, 0, none⟩) 1 1] [A, [t]] (w.heap.size + 1) 2 ((w.alloc (.cells #[.int .i64 t.1, .int .i64 t.2.1, .int .i64 t.2.2] 24)).alloc (.cells #[v, .slice (some ⟨w.heap.size, 0, none⟩) 1 1] 22)) rfl (by rw [hsz]; omega) (fun j hj => by
      obtain rfl | rfl : j = 0 ∨ j = 1 := by omega
      · unfold World.cell?; rw [hblk]; rfl
      · unfold World.cell?; rw [hblk]; rfl) (fun j hj => by
      obtain rfl | rfl : j = 0 ∨ j = 1 := by omega
      · exact u.below hb
      · exact hone) (by omega) (by rw [hf, List.length_append]; simp; omega)
  rw [hf] at hc
  refine hc.mono ?_
  rintro e w' ⟨v', rfl, ho, hb'⟩
  refine ⟨v', rfl, ?_, below_trans hb hb'⟩
  rw [List.length_append] at ho
  exact own_lowerq ho (by rw [hsz]; omega)
set_option maxRecDepth 100000 in
set_option maxHeartbeats 4000000 in
theorem make_any (A : List M.Tm) (t : M.Tm) (ht : M.fitT t) (v : Value) (w : World) (u : Ts w v A) :
    Calls Tryd.prog 11 #[v, .agg #[.int .i64 t.1, .int .i64 t.2.1, .int .i64 t.2.2]] w fun e w' => ∃ v', e = .returned (.tuple #[.int .i64 (M.makeV A t), v', .int .i64 (M.makeE A t)]) ∧ w'.ownsRow w.heap.size 24 3 v' (M.makeL A t).length (elTm.cells (M.makeL A t)) ∧ Below w.heap.size w w' := by
  have HB := hidq (below_one (o := .cells #[.int .i64 t.1, .int .i64 t.2.1, .int .i64 t.2.2] 24) (Below.refl w.heap.size w))
  have X0 := hidq (Bx3.new w t)
  have U0 := hidq (u.alloc (.cells #[.int .i64 t.1, .int .i64 t.2.1, .int .i64 t.2.2] 24))
  have HF := hidq ht
  obtain ⟨ao, cap, rfl, q1, q2, q4⟩ := u.form
  clear u ht q4
  obtain ⟨x, HV⟩ : ∃ x, Hid (M.findV A t = x) := ⟨_, rfl⟩
  by_cases hc : M.Ok A ∧ M.mayB t A.length = true
  · have hl := hc.1.1
    cases hp : M.plc t A with
    | none =>
      have e1 : M.findE A t = 4 := by unfold M.findE; rw [if_pos hc, if_pos hp]
      have HE := hidq e1
      by_cases h6 : A.length = 65536
      · have e2 : M.makeE A t = 6 := by unfold M.makeE; rw [if_pos e1, if_pos h6]
        have e3 : M.makeV A t = 0 := by unfold M.makeV; rw [if_neg (by rw [e1]; decide), if_neg (by rw [e2]; decide)]
        have e4 : M.makeL A t = [] := by unfold M.makeL; rw [if_neg (by rw [e1]; decide), if_neg (by rw [e2]; decide)]
        rw [e2, e3, e4]
        have h6i : (A.length : Int) = 65536 := by omega
        clear hc hp e1 e2 e3 e4 h6
        go_enter Tryd.func11, Tryd.ntmps11
        go_wp2_with (first | (go_at_call 9; refine (find_eq HF.out HV.out HE.out _ U0.out).mono ?_; rintro r w1 ⟨rfl, hb1⟩; have U1 := hidq (U0.out.below hb1); have X1 := X0.out.below hb1; have c1 := X1.cells; have B1 := hidq (below_trans HB.out hb1); have s1 := hidq (below_trans HB.out hb1).size; clear hb1))
        refine bodyPost_ret (v := .tuple #[.int .i64 _, _, .int .i64 _]) (by simp [results, Tryd.results11, go_sem]) rfl ⟨_, rfl, World.ownsRow_nil _ _ _ _, B1.out⟩
      · have e2 : M.makeE A t = 0 := by unfold M.makeE; rw [if_pos e1, if_neg h6]
        have e3 : M.makeV A t = A.length := by unfold M.makeV; rw [if_neg (by rw [e1]; decide), if_pos e2]
        have e4 : M.makeL A t = A ++ [t] := by unfold M.makeL; rw [if_neg (by rw [e1]; decide), if_pos e2]
        rw [e2, e3, e4]
        have h6i : ¬ (A.length : Int) = 65536 := by omega
        have HC2 := hidq (fun W (u : Ts W (.slice ao A.length cap) A) => concat_two A t HF.out hl (.slice ao A.length cap) W u)
        have e5 : (A ++ [t]).length = A.length + 1 := by simp
        rw [e5]
        generalize A ++ [t] = A' at *
        clear hc hp e1 e2 e3 e4 h6 e5
        go_enter Tryd.func11, Tryd.ntmps11
        go_wp2_with (first | (go_at_call 9; refine (find_eq HF.out HV.out HE.out _ U0.out).mono ?_; rintro r w1 ⟨rfl, hb1⟩; have U1 := hidq (U0.out.below hb1); have X1 := X0.out.below hb1; have c1 := X1.cells; have B1 := hidq (below_trans HB.out hb1); have s1 := hidq (below_trans HB.out hb1).size; clear hb1) | (go_at_call 30; refine (HC2.out _ U1.out).mono ?_; rintro r w2 ⟨v', rfl, ho2, hb2⟩; have O2 := hidq (own_lowerq ho2 s1.out); have B2 := hidq (below_trans B1.out hb2); clear ho2 hb2))
        refine bodyPost_ret (v := .tuple #[.int .i64 _, _, .int .i64 _]) (by simp [results, Tryd.results11, go_sem]) rfl ⟨_, rfl, O2.out, B2.out⟩
    | some i =>
      have e1 : M.findE A t = 0 := by unfold M.findE; rw [if_pos hc, if_neg (by rw [hp]; simp)]
      have e2 : M.makeE A t = 0 := by unfold M.makeE; rw [if_neg (by rw [e1]; decide), e1]
      have e3 : M.makeV A t = x := by rw [← HV.out]; unfold M.makeV M.findV; rw [if_pos e1, if_pos e1]
      have e4 : M.makeL A t = A := by unfold M.makeL; rw [if_pos e1]
      rw [e2, e3, e4]
      have HE := hidq e1
      clear hc hp e1 e2 e3 e4
      have HC := hidq (cloneT_any A hl)
      go_enter Tryd.func11, Tryd.ntmps11
      go_wp2_with (first | (go_at_call 9; refine (find_eq HF.out HV.out HE.out _ U0.out).mono ?_; rintro r w1 ⟨rfl, hb1⟩; have U1 := hidq (U0.out.below hb1); have X1 := X0.out.below hb1; have c1 := X1.cells; have B1 := hidq (below_trans HB.out hb1); have s1 := hidq (below_trans HB.out hb1).size; clear hb1) | (go_at_call 29; refine (HC.out _ _ U1.out).mono ?_; rintro r w2 ⟨v', rfl, ho2, hb2⟩; have O2 := hidq (own_lowerq ho2 s1.out); have B2 := hidq (below_trans B1.out hb2); clear ho2 hb2))
      refine bodyPost_ret (v := .tuple #[.int .i64 _, _, .int .i64 _]) (by simp [results, Tryd.results11, go_sem]) rfl ⟨_, rfl, O2.out, B2.out⟩
  · have e1 : M.findE A t = 1 := by unfold M.findE; rw [if_neg hc]
    have e2 : M.makeE A t = 1 := by unfold M.makeE; rw [if_neg (by rw [e1]; decide), e1]
    have e3 : M.makeV A t = 0 := by unfold M.makeV; rw [if_neg (by rw [e1]; decide), if_neg (by rw [e2]; decide)]
    have e4 : M.makeL A t = [] := by unfold M.makeL; rw [if_neg (by rw [e1]; decide), if_neg (by rw [e2]; decide)]
    rw [e2, e3, e4]
    have HE := hidq e1
    clear hc e1 e2 e3 e4
    go_enter Tryd.func11, Tryd.ntmps11
    go_wp2_with (first | (go_at_call 9; refine (find_eq HF.out HV.out HE.out _ U0.out).mono ?_; rintro r w1 ⟨rfl, hb1⟩; have U1 := hidq (U0.out.below hb1); have X1 := X0.out.below hb1; have c1 := X1.cells; have B1 := hidq (below_trans HB.out hb1); have s1 := hidq (below_trans HB.out hb1).size; clear hb1))
    refine bodyPost_ret (v := .tuple #[.int .i64 _, _, .int .i64 _]) (by simp [results, Tryd.results11, go_sem]) rfl ⟨_, rfl, World.ownsRow_nil _ _ _ _, B1.out⟩
theorem make_eq {A : List M.Tm} {t : M.Tm} (ht : M.fitT t) {x n : Int} {L : List M.Tm} (h : M.makeV A t = x) (hn : M.makeE A t = n) (hL : M.makeL A t = L) {v : Value} (w : World) (u : Ts w v A) :
    Calls Tryd.prog 11 #[v, .agg #[.int .i64 t.1, .int .i64 t.2.1, .int .i64 t.2.2]] w fun e w' => ∃ v', e = .returned (.tuple #[.int .i64 x, v', .int .i64 n]) ∧ w'.ownsRow w.heap.size 24 3 v' L.length (elTm.cells L) ∧ Below w.heap.size w w' := by subst h; subst hn; subst hL; exact make_any A t ht v w u
end Go.Proofs.YtkggcfkjmmijbaaDoor
