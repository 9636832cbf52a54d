/-
  What leaf.With answers where it refuses, and what Without answers at every input. Conditions: the slice holds numbers that fit.
-/
import Derived.Test.YthmiieiajfghnaaZF6
namespace Go.Proofs.Ythmiieiajfghnaa
open Go.RowKit
set_option maxRecDepth 100000 in
set_option maxHeartbeats 1000000 in
theorem with_no (h : Int) (L : List Int) (v : Value) (i : Int) (w : World) (hu : Us w v L) (h0 : 0 ≤ i) (h1 : i ≤ 18446744073709551615) (hE : M.withE h L i ≠ 0) :
    Calls Try.prog 28 #[.int .i64 h, v, .int .u64 i] w fun e w' => e = .returned (.tuple #[.slice none 0 0, .int .i64 (M.withE h L i)]) ∧ Below w.heap.size w w' := by
  by_cases hf : M.findE h L i = 0
  · cases hh : M.has L i
    · by_cases h6 : L.length = 1024
      · have e1 : M.withE h L i = 6 := by unfold M.withE; rw [if_pos hf, hh]; simp [h6]
        have e2 : M.hasV h L i = false := by unfold M.hasV; rw [hh]; simp
        rw [e1]
        clear hE e1
        have hu0 := hu
        obtain ⟨ao, cap, rfl, _, _, _, _⟩ := hu0
        rw [h6] at hu ⊢
        go_enter Try.func28, Try.ntmps28
        go_wp2_with (first | (go_at_call 48; refine (find_any _ L _ _ _ hu (by omega) (by omega)).mono ?_; rintro e w1 ⟨rfl, hb1⟩))
        go_ret2
        exact ⟨rfl, hb1⟩
      · exact absurd (by unfold M.withE; rw [if_pos hf, hh]; simp [h6]) hE
    · have e1 : M.withE h L i = 5 := by unfold M.withE; rw [if_pos hf, hh]; simp
      have e2 : M.hasV h L i = true := by unfold M.hasV; rw [hh, hf]; simp
      rw [e1]
      clear hE e1
      go_enter Try.func28, Try.ntmps28
      go_wp2_with (first | (go_at_call 48; refine (find_any _ L _ _ _ hu (by omega) (by omega)).mono ?_; rintro e w1 ⟨rfl, hb1⟩))
      go_ret2
      exact ⟨rfl, hb1⟩
  · have e1 : M.withE h L i = 1 := by unfold M.withE; rw [if_neg hf]
    have e2 : M.findE h L i = 1 := by
      unfold M.findE at hf ⊢
      cases hx : (M.setB h L && M.isB h i)
      · rfl
      · rw [hx] at hf; simp at hf
    rw [e1]
    clear hE e1 hf
    go_enter Try.func28, Try.ntmps28
    go_wp2_with (first | (go_at_call 48; refine (find_any _ L _ _ _ hu (by omega) (by omega)).mono ?_; rintro e w1 ⟨rfl, hb1⟩))
    go_ret2
    exact ⟨rfl, hb1⟩
set_option maxRecDepth 100000 in
theorem concat2 (v1 v2 : Value) (A C : List Int) (w : World) (hA : Us w v1 A) (hC : Us w v2 C) (hl : A.length + C.length ≤ 2000) :
    Calls Try.prog 50 #[.slice (some ⟨w.heap.size, 0, none⟩) 2 2] (w.alloc (.cells #[v1, v2] 22)).drew fun e w' =>
      ∃ v, e = .returned v ∧ w'.ownsRow w.heap.size 23 1 v (A ++ C).length (u64s (A ++ C)) ∧ Below w.heap.size w w' := by
  have hb : Below w.heap.size w (w.alloc (.cells #[v1, v2] 22)).drew := ((Below.refl _ w).alloc (Nat.le_refl _) _).drew
  have hflat : [A, C].flatten = A ++ C := by simp
  have key := concat_any [v1, v2] [A, C] w.heap.size 2 (w.alloc (.cells #[v1, v2] 22)).drew rfl (by simp) ?_ ?_ (by omega) (by rw [hflat]; simp; omega)
  · refine key.mono ?_
    rw [hflat]
    rintro e w' ⟨v, h1, h2, h3⟩
    exact ⟨v, h1, own_back hb h2, below_trans hb h3⟩
  · intro j hj
    have hc := cell_at w #[v1, v2] 22 j
    show World.cell? (w.alloc _) _ = _
    rw [hc]
    match j, hj with
    | 0, _ => rfl
    | 1, _ => rfl
  · intro j hj
    match j, hj with
    | 0, _ => exact hA.below hb
    | 1, _ => exact hC.below hb
theorem M.outE_zero {h : Int} {L : List Int} {i : Int} (hE : M.outE h L i = 0) : M.findE h L i = 0 ∧ M.has L i = true ∧ M.hasV h L i = true ∧ M.findN h L i = (M.pos L i : Nat) ∧ M.setB h L = true ∧ M.isB h i = true := by
  unfold M.outE at hE
  by_cases hf : M.findE h L i = 0
  · rw [if_pos hf] at hE
    cases hh : M.has L i
    · rw [hh] at hE; simp at hE
    · have hs : M.setB h L = true ∧ M.isB h i = true := by
        have := hf
        unfold M.findE at this
        cases hx : (M.setB h L && M.isB h i)
        · rw [hx] at this; simp at this
        · simpa using hx
      exact ⟨hf, rfl, by unfold M.hasV; rw [hh, hf]; simp, by unfold M.findN; rw [if_pos hf], hs.1, hs.2⟩
  · rw [if_neg hf] at hE; simp at hE
end Go.Proofs.Ythmiieiajfghnaa
