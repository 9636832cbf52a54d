/-
  What the document's own Parts and SameInts come to at every input. Conditions: the slices hold whole numbers.
-/
import Derived.Test.YthkkclhjpgkhaaaT6
namespace Go.Proofs.Ythkkclhjpgkhaaa
open Go.RowKit
theorem elInt_cells (L : List Int) : elInt.cells L = L.map (fun x => .int .i64 x) := by
  induction L with
  | nil => rfl
  | cons x L ih =>
    show [Value.int .i64 x] ++ elInt.cells L = _
    rw [ih]; rfl
theorem own_lit1 (W : World) (base g : Nat) (hg : g = W.heap.size) (hb : base ≤ W.heap.size) (a : Int) : (W.alloc (.cells #[.int .i64 a] 3)).ownsRow base 3 1 (.slice (some ⟨g, 0, none⟩) 1 1) 1 (elInt.cells [a]) :=
  ⟨rfl, .inr ⟨W.heap.size, 1, _, by rw [hg], hb, heap_alloc_new W _, Nat.le_refl _, by unfold maxLen; omega, rfl, rfl⟩⟩
theorem own_lit2 (W : World) (base g : Nat) (hg : g = W.heap.size) (hb : base ≤ W.heap.size) (a b : Int) : (W.alloc (.cells #[.int .i64 a, .int .i64 b] 3)).ownsRow base 3 1 (.slice (some ⟨g, 0, none⟩) 2 2) 2 (elInt.cells [a, b]) :=
  ⟨rfl, .inr ⟨W.heap.size, 2, _, by rw [hg], hb, heap_alloc_new W _, Nat.le_refl _, by unfold maxLen; omega, rfl, rfl⟩⟩
theorem M.parts_0 {t : M.Tm} (h2 : ¬ t.1 = 2) (h3 : ¬ t.1 = 3) (h4 : ¬ t.1 = 4) (h5 : ¬ t.1 = 5) : M.parts t = [] := by unfold M.parts; rw [if_neg (by omega), if_neg h5]
theorem M.parts_1 {t : M.Tm} (h : t.1 = 2 ∨ t.1 = 3 ∨ t.1 = 4) : M.parts t = [t.2.1] := by unfold M.parts; rw [if_pos h]
theorem M.parts_2 {t : M.Tm} (h : t.1 = 5) : M.parts t = [t.2.1, t.2.2] := by unfold M.parts; rw [if_neg (by omega), if_pos h]
set_option maxRecDepth 100000 in
set_option maxHeartbeats 1000000 in
theorem rparts_any (t : M.Tm) (w : World) :
    Calls Try.prog 23 #[.agg #[.int .i64 t.1, .int .i64 t.2.1, .int .i64 t.2.2]] w fun e w' => ∃ v, e = .returned v ∧ w'.ownsRow w.heap.size 3 1 v (M.parts t).length (elInt.cells (M.parts t)) ∧ Below w.heap.size w w' := by
  by_cases h : t.1 = 2 ∨ t.1 = 3 ∨ t.1 = 4
  · rw [M.parts_1 h]
    obtain ⟨k, a, b⟩ := t
    dsimp only at h ⊢
    rcases h with rfl | rfl | rfl
    all_goals go_enter Try.func23, Try.ntmps23
    all_goals go_wp2
    all_goals go_ret
    all_goals refine ⟨_, rfl, own_lit1 _ _ _ ?_ ?_ a, below_one (below_one (Below.refl _ _))⟩
    all_goals simp
  · by_cases h5 : t.1 = 5
    · rw [M.parts_2 h5]
      obtain ⟨k, a, b⟩ := t
      dsimp only at h5 ⊢
      subst h5
      go_enter Try.func23, Try.ntmps23
      go_wp2
      go_ret
      refine ⟨_, rfl, own_lit2 _ _ _ ?_ ?_ a b, below_one (below_one (Below.refl _ _))⟩
      all_goals simp
    · obtain ⟨h2, h3, h4⟩ : ¬ t.1 = 2 ∧ ¬ t.1 = 3 ∧ ¬ t.1 = 4 := ⟨fun e => h (.inl e), fun e => h (.inr (.inl e)), fun e => h (.inr (.inr e))⟩
      rw [M.parts_0 h2 h3 h4 h5]
      clear h
      go_enter Try.func23, Try.ntmps23
      go_wp2
      go_ret
      exact ⟨_, rfl, World.ownsRow_nil _ _ _ _, below_one (Below.refl _ _)⟩
/-- the slice value v holds the whole numbers L -/
abbrev Is (W : World) (v : Value) (L : List Int) : Prop := Sl elInt W v L
theorem Is.cell {W : World} {b off n cap : Nat} {L : List Int} (h : Is W (.slice (some ⟨b, off, none⟩) n cap) L) {k : Nat} (hk : k < L.length) : W.cell? ⟨b, off + k, none⟩ = some (.int .i64 (L[k]?.getD 0)) := by
  have := Sl.at h (k := k) (x := L[k]) (List.getElem?_eq_getElem hk) (i := 0) (by decide)
  rw [List.getElem?_eq_getElem hk]
  simpa [elInt] using this
set_option maxRecDepth 100000 in
set_option maxHeartbeats 1000000 in
theorem sameInts_any (A B : List Int) (v1 v2 : Value) (w : World) (u1 : Is w v1 A) (u2 : Is w v2 B) :
    Calls Try.prog 20 #[v1, v2] w fun e w' => e = .returned (.bool (decide (A = B))) ∧ Below w.heap.size w w' := by
  obtain ⟨a1, c1, rfl, hp1, hp2, hp4⟩ := u1.form
  obtain ⟨a2, c2, rfl, hq1, hq2, hq4⟩ := u2.form
  have hm : A.length ≤ maxLen := by omega
  unfold maxLen at hm
  have U1 := hidq u1
  have U2 := hidq u2
  have HP4 := hidq hp4
  have HQ4 := hidq hq4
  clear hp4 hq4 u1 u2
  by_cases hl : A.length = B.length
  · obtain ⟨r, hr⟩ : ∃ r, decide (A = B) = r := ⟨_, rfl⟩
    have HR := hidq hr
    rw [hr]
    clear hr
    have EL := hidq hl
    rw [← hl]
    generalize hn : A.length = n at *
    have HN := hidq hn
    clear hn hl
    go_enter Try.func20, Try.ntmps20
    go_wp2
    go_loopw [13] (fun i wr => ∃ k : Nat, k ≤ n ∧ i = .int .i64 k ∧ Below w.heap.size w wr ∧ ∀ j, j < k → A[j]? = B[j]?) (fun i _ => n - (intOf i).toNat)
    case atStart => exact ⟨0, by omega, rfl, Below.refl _ _, fun j hj => by omega⟩
    case round =>
      obtain ⟨k, hk, rfl, hb, hall⟩ := hrel
      have HA := hidq hall
      have HB := hidq hb
      clear hall
      by_cases hlt : k < n
      · obtain ⟨b1, o1, rfl⟩ := HP4.out (by omega)
        obtain ⟨b2, o2, rfl⟩ := HQ4.out (by have := EL.out; omega)
        have x1 := Is.cell (U1.out.below hb) (k := k) (by rw [HN.out]; exact hlt)
        have y1 := Is.cell (U2.out.below hb) (k := k) (by rw [← EL.out]; exact hlt)
        clear hb
        obtain ⟨s, hs⟩ : ∃ s, A[k]? = some s := ⟨_, List.getElem?_eq_getElem (by rw [HN.out]; exact hlt)⟩
        obtain ⟨t, ht⟩ : ∃ t, B[k]? = some t := ⟨_, List.getElem?_eq_getElem (by rw [← EL.out]; exact hlt)⟩
        rw [hs, Option.getD_some] at x1
        rw [ht, Option.getD_some] at y1
        by_cases he : s = t
        · have HE := hidq (show A[k]? = B[k]? by rw [hs, ht, he])
          clear hs ht
          subst he
          go_wp2
          go_quiet (fail)
          go_wp2
          go_roundw
          case rel => exact ⟨k + 1, by omega, by go_num, below_dq HB.out _, fun j hj => by
            rcases Nat.lt_or_ge j k with h | h
            · exact HA.out j h
            · obtain rfl : j = k := by omega
              exact HE.out⟩
          case measure => simp [intOf]; omega
        · obtain rfl : r = false := by
            rw [← HR.out]
            simp only [decide_eq_false_iff_not]
            intro e
            rw [e, ht] at hs
            exact he (Option.some.inj hs).symm
          clear hs ht
          go_wp2
          go_quiet (fail)
          go_wp2
          go_ret
          exact ⟨rfl, below_dq HB.out _⟩
      · obtain rfl : r = true := by
          rw [← HR.out]
          simp only [decide_eq_true_eq]
          refine List.ext_getElem? fun j => ?_
          by_cases hj : j < n
          · exact HA.out j (by omega)
          · rw [List.getElem?_eq_none (by rw [HN.out]; omega), List.getElem?_eq_none (by have := EL.out; omega)]
        clear hb
        go_wp2
        go_ret
        exact ⟨rfl, HB.out⟩
  · have hb : decide (A = B) = false := by
      simp only [decide_eq_false_iff_not]
      intro e; exact hl (by rw [e])
    rw [hb]
    have hli : ¬ (A.length : Int) = (B.length : Int) := by omega
    go_enter Try.func20, Try.ntmps20
    go_wp2
    go_ret
    exact ⟨rfl, Below.refl _ _⟩
end Go.Proofs.Ythkkclhjpgkhaaa
