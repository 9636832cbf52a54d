/-
  What sub.Has and Touch answer at every input. Conditions: the numbers fit their kinds.
-/
import Derived.Test.YtedilnipfjggfaaZA3
namespace Go.Proofs.Ytedilnipfjggfaa
open Go.RowKit
theorem M.sh_no {h I J i : Int} (hn : ¬ (M.subB h I J = true ∧ M.leafE h i = 0)) : M.shE h I J i = 1 ∧ M.shV h I J i = false := by
  have e : M.shE h I J i = 1 := by
    unfold M.shE
    cases hs : M.subB h I J
    · rfl
    · by_cases hl : M.leafE h i = 0
      · exact absurd ⟨hs, hl⟩ hn
      · rw [decide_eq_false hl]; rfl
  exact ⟨e, by unfold M.shV; rw [e]; rfl⟩
theorem M.sh_yes {h I J i : Int} (hs : M.subB h I J = true) (hl : M.leafE h i = 0) : M.shE h I J i = 0 ∧ M.shV h I J i = M.inS (M.lvs h I J) i := by
  have e : M.shE h I J i = 0 := by unfold M.shE; rw [hs, decide_eq_true hl]; rfl
  exact ⟨e, by unfold M.shV; rw [e]; simp⟩
set_option maxRecDepth 100000 in
set_option maxHeartbeats 1000000 in
theorem has8_any (h I J i : Int) (w : World) (h0 : 0 ≤ I) (h1 : I ≤ 18446744073709551615) (h2 : 0 ≤ J) (h3 : J ≤ 18446744073709551615) (h4 : 0 ≤ i) (h5 : i ≤ 18446744073709551615) :
    Calls Try.prog 15 #[.int .i64 h, .agg #[.int .u64 I, .int .u64 J], .int .u64 i] w fun e w' => e = .returned (.tuple #[.bool (M.shV h I J i), .int .i64 (M.shE h I J i)]) ∧ Below w.heap.size w w' := by
  have HA := hidq (fun o => (Below.refl _ w).alloc (Nat.le_refl w.heap.size) o)
  cases hs : M.subB h I J
  · have E := M.subE_no hs
    obtain ⟨e1, e2⟩ := M.sh_no (h := h) (I := I) (J := J) (i := i) (by rw [hs]; simp)
    rw [e1, e2]
    clear hs e1 e2
    go_enter Try.func15, Try.ntmps15
    go_wp2_with (first | (go_at_call 30; refine (check8_any h I J _ (by omega) (by omega) (by omega) (by omega)).mono ?_; rintro e w1 ⟨rfl, hb1⟩; have X1 := (Bi.new w 34 I J).below hb1; obtain ⟨X1a, X1b⟩ := X1.facts; have hB1 := below_trans (HA.out _) hb1))
    go_ret2
    exact ⟨rfl, hB1⟩
  · have E := M.subE_yes hs
    by_cases hl : M.leafE h i = 0
    · obtain ⟨e1, e2⟩ := M.sh_yes hs hl
      rw [e1, e2]
      clear e1 e2
      obtain ⟨r, hr⟩ : ∃ r, M.inS (M.lvs h I J) i = r := ⟨_, rfl⟩
      rw [hr]
      go_enter Try.func15, Try.ntmps15
      go_wp2_with (first | (go_at_call 30; refine (check8_any h I J _ (by omega) (by omega) (by omega) (by omega)).mono ?_; rintro e w1 ⟨rfl, hb1⟩; have X1 := (Bi.new w 34 I J).below hb1; obtain ⟨X1a, X1b⟩ := X1.facts; have hB1 := below_trans (HA.out _) hb1) | (go_at_call 31; refine (leaf_any _ _ _ (by omega) (by omega)).mono ?_; rintro e w' ⟨rfl, hw⟩; subst w') | (go_at_call 33; refine (spansOf_any h I J _ hs (by omega)).mono ?_; rintro e w2 ⟨v, rfl, hp2, hb2⟩; have hB2 := below_trans hB1 hb2; obtain ⟨_, _, rfl, _⟩ := hp2.form) | (go_at_call 32; refine (within_any _ _ _ hp2).mono ?_; rintro rr w3 ⟨rfl, hw3⟩; subst hw3) | (go_at_call 54; refine (within1_any _ _ _ _ _ (Bo.new _ _ _) (hp2.alloc _)).mono ?_; rintro rr w4 ⟨rfl, hb4⟩; have hB4 := below_trans (below_one hB2) hb4))
      go_ret2
      exact ⟨rfl, hB4⟩
    · obtain ⟨e1, e2⟩ := M.sh_no (h := h) (I := I) (J := J) (i := i) (fun hx => hl hx.2)
      rw [e1, e2]
      clear hs e1 e2
      go_enter Try.func15, Try.ntmps15
      go_wp2_with (first | (go_at_call 30; refine (check8_any h I J _ (by omega) (by omega) (by omega) (by omega)).mono ?_; rintro e w1 ⟨rfl, hb1⟩; have X1 := (Bi.new w 34 I J).below hb1; obtain ⟨X1a, X1b⟩ := X1.facts; have hB1 := below_trans (HA.out _) hb1) | (go_at_call 31; refine (leaf_any _ _ _ (by omega) (by omega)).mono ?_; rintro e w' ⟨rfl, hw⟩; subst w'))
      go_ret2
      exact ⟨rfl, hB1⟩
end Go.Proofs.Ytedilnipfjggfaa
