/-
  What the library's Clone and Equal of slices of terms, and the program's Same, come to. Conditions: each theorem's own premises.
-/
import Derived.Test.YtkggcfkjmmijbaaDoorU5
namespace Go.Proofs.YtkggcfkjmmijbaaDoor
open Go.RowKit
set_option maxRecDepth 100000 in
set_option maxHeartbeats 1000000 in
theorem cloneT_any (A : List M.Tm) (hl : A.length ≤ 65536) (v : Value) (w : World) (u : Ts w v A) :
    Calls Tryd.prog 29 #[v] w fun e w' => ∃ v', e = .returned v' ∧ w'.ownsRow w.heap.size 24 3 v' A.length (elTm.cells A) ∧ Below w.heap.size w w' := by
  have hnil : ∀ (w : World) (a : Option Addr) (n c n' c' : Nat), (binOp .eql 22 (.slice a n c) (.slice none n' c')).run Tryd.prog w = .ok (.bool a.isNone) w := fun w a n c n' c' => Lib.run_eql_slice_nil w _ _ a n c n' c' Tryd.underlying22
  have U := hidq u
  obtain ⟨ao, cap, rfl, q1, q2, q4⟩ := u.form
  clear u
  cases ao with
  | none =>
    have h0 : A.length = 0 := by
      rcases Nat.eq_zero_or_pos A.length with h | h
      · exact h
      · obtain ⟨b, off, e⟩ := q4 (by omega); cases e
    obtain rfl : A = [] := List.eq_nil_of_length_eq_zero h0
    clear q4
    go_enter Tryd.func29, Tryd.ntmps29
    go_wp2
    go_ret
    exact ⟨_, rfl, World.ownsRow_nil _ _ _ _, Below.refl _ _⟩
  | some ad =>
    clear q4
    have HB := hidq (below_one (o := .cells #[] 24) (Below.refl w.heap.size w))
    have HO := hidq (show (w.alloc (.cells #[] 24)).ownsRow w.heap.size 24 3 (.slice (some ⟨w.heap.size, 0, none⟩) 0 0) 0 (elTm.cells []) from ⟨rfl, .inr ⟨w.heap.size, 0, _, rfl, Nat.le_refl _, heap_alloc_new w _, Nat.le_refl _, by unfold maxLen; omega, rfl, rfl⟩⟩)
    go_enter Tryd.func29, Tryd.ntmps29
    go_wp2_with (at_builtin; refine wpList_append_sl (E := elTm) rfl _ _ rfl w.heap.size _ 0 [] rfl HO.out _ A rfl (U.out.alloc _) (by omega) HB.out.size ?_; intro v' w2 hown2 hgrow2)
    have hb2 : Below w.heap.size w w2 := HB.out.grown hgrow2 HB.out.size (fun q hq => (HO.out.lt q hq).1)
    have HO2 := hidq hown2
    clear hown2 hgrow2
    go_wp2
    go_ret
    exact ⟨_, rfl, by have := HO2.out; rw [Nat.zero_add, List.nil_append] at this; exact this, hb2⟩
set_option maxRecDepth 100000 in
set_option maxHeartbeats 4000000 in
theorem equalT_any (A B : List M.Tm) (v1 v2 : Value) (w : World) (u1 : Ts w v1 A) (u2 : Ts w v2 B) :
    Calls Tryd.prog 31 #[v1, v2] w fun e w' => e = .returned (.bool (decide (A = B))) ∧ Below w.heap.size w w' := by
  have hq := eqT
  obtain ⟨a1, c1, rfl, hp1, hp2, hp4⟩ := u1.form
  obtain ⟨a2, c2, rfl, hq1, hq2, hq4⟩ := u2.form
  have hm : A.length ≤ maxLen := by omega
  unfold maxLen at hm
  have U1 := hidq u1
  have U2 := hidq u2
  have HP4 := hidq hp4
  have HQ4 := hidq hq4
  clear hp4 hq4 u1 u2
  by_cases hl : A.length = B.length
  · obtain ⟨r, hr⟩ : ∃ r, decide (A = B) = r := ⟨_, rfl⟩
    have HR := hidq hr
    rw [hr]
    clear hr
    have EL := hidq hl
    rw [← hl]
    generalize hn : A.length = n at *
    have HN := hidq hn
    clear hn hl
    go_enter Tryd.func31, Tryd.ntmps31
    go_wp2
    go_loopw [13] (fun i wr => ∃ k : Nat, k ≤ n ∧ i = .int .i64 k ∧ Below w.heap.size w wr ∧ ∀ j, j < k → M.at_ A j = M.at_ B j) (fun i _ => n - (intOf i).toNat)
    case atStart => exact ⟨0, by omega, rfl, Below.refl _ _, fun j hj => by omega⟩
    case round =>
      obtain ⟨k, hk, rfl, hb, hall⟩ := hrel
      have HA := hidq hall
      have HB := hidq hb
      clear hall
      by_cases hlt : k < n
      · obtain ⟨b1, o1, rfl⟩ := HP4.out (by omega)
        obtain ⟨b2, o2, rfl⟩ := HQ4.out (by have := EL.out; omega)
        obtain ⟨x1, x2, x3⟩ := Ts.cell (U1.out.below hb) (k := k) (by rw [HN.out]; exact hlt)
        obtain ⟨y1, y2, y3⟩ := Ts.cell (U2.out.below hb) (k := k) (by rw [← EL.out]; exact hlt)
        clear hb
        obtain ⟨s, hs⟩ : ∃ s, M.at_ A k = s := ⟨_, rfl⟩
        obtain ⟨t, ht⟩ : ∃ t, M.at_ B k = t := ⟨_, rfl⟩
        rw [hs] at x1 x2 x3
        rw [ht] at y1 y2 y3
        by_cases he : s = t
        · have HE := hidq (hs.trans (he.trans ht.symm))
          clear hs ht
          subst he
          go_wp2
          go_quiet (fail)
          go_wp2
          go_roundw
          case rel => exact ⟨k + 1, by omega, by go_num, below_dq HB.out _, fun j hj => by
            rcases Nat.lt_or_ge j k with h | h
            · exact HA.out j h
            · obtain rfl : j = k := by omega
              exact HE.out⟩
          case measure => simp [intOf]; omega
        · obtain rfl : r = false := by
            rw [← HR.out]
            simp only [decide_eq_false_iff_not]
            intro e
            rw [e, ht] at hs
            exact he hs.symm
          clear hs ht
          go_wp2
          go_quiet (fail)
          go_wp2
          go_ret
          exact ⟨rfl, below_dq HB.out _⟩
      · obtain rfl : r = true := by
          rw [← HR.out]
          simp only [decide_eq_true_eq]
          refine List.ext_getElem? fun j => ?_
          by_cases hj : j < n
          · rw [at_get (by rw [HN.out]; exact hj), at_get (by rw [← EL.out]; exact hj), HA.out j (by omega)]
          · rw [List.getElem?_eq_none (by rw [HN.out]; omega), List.getElem?_eq_none (by have := EL.out; omega)]
        clear hb
        go_wp2
        go_ret
        exact ⟨rfl, HB.out⟩
  · have hb : decide (A = B) = false := by
      simp only [decide_eq_false_iff_not]
      intro e; exact hl (by rw [e])
    rw [hb]
    have hli : ¬ (A.length : Int) = (B.length : Int) := by omega
    go_enter Tryd.func31, Tryd.ntmps31
    go_wp2
    go_ret
    exact ⟨rfl, Below.refl _ _⟩
theorem same_any (A B : List M.Tm) (v1 v2 : Value) (w : World) (u1 : Ts w v1 A) (u2 : Ts w v2 B) :
    Calls Tryd.prog 16 #[v1, v2] w fun e w' => e = .returned (.bool (decide (A = B))) ∧ Below w.heap.size w w' := by
  have C := hidq (equalT_any A B v1 v2 w u1 u2)
  clear u1 u2
  go_enter Tryd.func16, Tryd.ntmps16
  go_wp2_with (first | (go_at_call 31; refine C.out.mono ?_; rintro r w1 ⟨rfl, hb1⟩))
  go_ret
  exact ⟨rfl, hb1⟩
theorem same_eq {A B : List M.Tm} {r : Bool} (h : decide (A = B) = r) {v1 v2 : Value} (w : World) (u1 : Ts w v1 A) (u2 : Ts w v2 B) :
    Calls Tryd.prog 16 #[v1, v2] w fun e w' => e = .returned (.bool r) ∧ Below w.heap.size w w' := by subst h; exact same_any A B v1 v2 w u1 u2
end Go.Proofs.YtkggcfkjmmijbaaDoor
