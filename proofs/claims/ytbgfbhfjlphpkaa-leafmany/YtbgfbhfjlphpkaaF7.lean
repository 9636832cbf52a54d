/-
  What leaf.With answers where it refuses, and what Without answers at every input. Conditions: the slice holds numbers that fit.
-/
import Derived.Test.YtbgfbhfjlphpkaaF6
namespace Go.Proofs.Ytbgfbhfjlphpkaa
open Go.RowKit
set_option maxRecDepth 100000 in
set_option maxHeartbeats 1000000 in
theorem with_no (h : Int) (L : List Int) (v : Value) (i : Int) (w : World) (hu : Us w v L) (h0 : 0 ≤ i) (h1 : i ≤ 18446744073709551615) (hE : M.withE h L i ≠ 0) :
    Calls Try.prog 12 #[.int .i64 h, v, .int .u64 i] w fun e w' => e = .returned (.tuple #[.slice none 0 0, .int .i64 (M.withE h L i)]) ∧ Below w.heap.size w w' := by
  by_cases hf : M.findE h L i = 0
  · cases hh : M.has L i
    · by_cases h6 : L.length = 1024
      · have e1 : M.withE h L i = 6 := by unfold M.withE; rw [if_pos hf, hh]; simp [h6]
        have e2 : M.hasV h L i = false := by unfold M.hasV; rw [hh]; simp
        rw [e1]
        clear hE e1
        have hu0 := hu
        obtain ⟨ao, cap, rfl, _, _, _, _⟩ := hu0
        rw [h6] at hu ⊢
        go_enter Try.func12, Try.ntmps12
        go_wp2_with (first | (go_at_call 28; refine (find_any _ L _ _ _ hu (by omega) (by omega)).mono ?_; rintro e w1 ⟨rfl, hb1⟩))
        go_ret2
        exact ⟨rfl, hb1⟩
      · exact absurd (by unfold M.withE; rw [if_pos hf, hh]; simp [h6]) hE
    · have e1 : M.withE h L i = 5 := by unfold M.withE; rw [if_pos hf, hh]; simp
      have e2 : M.hasV h L i = true := by unfold M.hasV; rw [hh, hf]; simp
      rw [e1]
      clear hE e1
      go_enter Try.func12, Try.ntmps12
      go_wp2_with (first | (go_at_call 28; refine (find_any _ L _ _ _ hu (by omega) (by omega)).mono ?_; rintro e w1 ⟨rfl, hb1⟩))
      go_ret2
      exact ⟨rfl, hb1⟩
  · have e1 : M.withE h L i = 1 := by unfold M.withE; rw [if_neg hf]
    have e2 : M.findE h L i = 1 := by
      unfold M.findE at hf ⊢
      cases hx : (M.setB h L && M.isB h i)
      · rfl
      · rw [hx] at hf; simp at hf
    rw [e1]
    clear hE e1 hf
    go_enter Try.func12, Try.ntmps12
    go_wp2_with (first | (go_at_call 28; refine (find_any _ L _ _ _ hu (by omega) (by omega)).mono ?_; rintro e w1 ⟨rfl, hb1⟩))
    go_ret2
    exact ⟨rfl, hb1⟩
set_option maxRecDepth 100000 in
theorem concat2 (v1 v2 : Value) (A C : List Int) (w : World) (hA : Us w v1 A) (hC : Us w v2 C) (hl : A.length + C.length ≤ 2000) :
    Calls Try.prog 31 #[.slice (some ⟨w.heap.size, 0, none⟩) 2 2] (w.alloc (.cells #[v1, v2] 22)).drew fun e w' =>
      ∃ v, e = .returned v ∧ w'.ownsRow w.heap.size 23 1 v (A ++ C).length (u64s (A ++ C)) ∧ Below w.heap.size w w' := by
  have hb : Below w.heap.size w (w.alloc (.cells #[v1, v2] 22)).drew := ((Below.refl _ w).alloc (Nat.le_refl _) _).drew
  have hflat : [A, C].flatten = A ++ C := by simp
  have key := concat_any [v1, v2] [A, C] w.heap.size 2 (w.alloc (.cells #[v1, v2] 22)).drew rfl (by simp) ?_ ?_ (by omega) (by rw [hflat]; simp; omega)
  · refine key.mono ?_
    rw [hflat]
    rintro e w' ⟨v, h1, h2, h3⟩
    exact ⟨v, h1, own_back hb h2, below_trans hb h3⟩
  · intro j hj
    have hc := cell_at w #[v1, v2] 22 j
    show World.cell? (w.alloc _) _ = _
    rw [hc]
    match j, hj with
    | 0, _ => rfl
    | 1, _ => rfl
  · intro j hj
    match j, hj with
    | 0, _ => exact hA.below hb
    | 1, _ => exact hC.below hb
theorem M.outE_zero {h : Int} {L : List Int} {i : Int} (hE : M.outE h L i = 0) : M.findE h L i = 0 ∧ M.has L i = true ∧ M.hasV h L i = true ∧ M.findN h L i = (M.pos L i : Nat) ∧ M.setB h L = true ∧ M.isB h i = true := by
  unfold M.outE at hE
  by_cases hf : M.findE h L i = 0
  · rw [if_pos hf] at hE
    cases hh : M.has L i
    · rw [hh] at hE; simp at hE
    · have hs : M.setB h L = true ∧ M.isB h i = true := by
        have := hf
        unfold M.findE at this
        cases hx : (M.setB h L && M.isB h i)
        · rw [hx] at this; simp at this
        · simpa using hx
      exact ⟨hf, rfl, by unfold M.hasV; rw [hh, hf]; simp, by unfold M.findN; rw [if_pos hf], hs.1, hs.2⟩
  · rw [if_neg hf] at hE; simp at hE
set_option maxRecDepth 100000 in
set_option maxHeartbeats 1000000 in
theorem out_yes (h : Int) (L : List Int) (v : Value) (i : Int) (w : World) (hu : Us w v L) (h0 : 0 ≤ i) (h1 : i ≤ 18446744073709551615) (hE : M.outE h L i = 0) :
    Calls Try.prog 14 #[.int .i64 h, v, .int .u64 i] w fun e w' => ∃ v', e = .returned (.tuple #[v', .int .i64 0]) ∧ w'.ownsRow w.heap.size 23 1 v' (M.outL L i).length (u64s (M.outL L i)) ∧ Below w.heap.size w w' := by
  obtain ⟨f0, f3', f1, f2, f5, _⟩ := M.outE_zero hE
  have hL := (M.set_of f5).2.2.2.2.1
  have f3 := (M.set_of f5).2.2.1
  obtain ⟨f4, hP⟩ := M.out_parts hL f3'
  have HP := hid hP
  clear f5 hE hL f3' hP
  have hu0 := hu
  obtain ⟨ao, cap, rfl, hq1, hq2, hq3, hq4⟩ := hu0
  generalize M.pos L i = p at *
  generalize hn : L.length = n at *
  have c0 : ¬ cap = 0 := by omega
  obtain ⟨b, off, rfl, hq5, hq6⟩ := hq4 (by omega)
  have c2 : p ≤ cap := by omega
  have c4 : p + 1 ≤ cap := by omega
  have hwr : IntKind.i64.wrap ((p : Int) + 1) = (p : Int) + 1 := by rw [IntKind.wrap_i64]; omega
  have hp0 : (0 : Int) ≤ (p : Int) + 1 := by omega
  have hp1 : (p : Int) + 1 ≤ (n : Int) := by omega
  have hp2 : ((p : Int) + 1).toNat = p + 1 := by omega
  have HA : Hid (Us w (.slice (some ⟨b, off, none⟩) p cap) (L.take p)) := by
    have := Us.part hu 0 p (by omega) (by omega) (fun e => c0 e)
    show Us _ _ _
    simpa using this
  by_cases c1 : cap = p + 1
  · have HC : Hid (Us w (.slice (some ⟨b, off, none⟩) 0 0) (L.drop (p + 1))) := by
      rw [List.drop_of_length_le (by omega)]; exact Us.empty
    have c3 : n = p + 1 := by omega
    clear hq3 hq4 hq6
    subst c1
    subst c3
    go_enter Try.func14, Try.ntmps14
    go_wp2_with (first | (go_at_call 28; refine (find_any _ L _ _ _ hu (by omega) (by omega)).mono ?_; rintro e w1 ⟨rfl, hb1⟩))
    go_region_with (go_at_call 31; refine (concat2 _ _ _ _ w1 (HA.out.below hb1) (HC.out.below hb1) (by rw [List.length_take, List.length_drop]; omega)).mono ?_; rintro e w2 ⟨v, rfl, hown, hb2⟩)
    all_goals (rw [HP.out] at hown; have HO := hid hown; clear hown; go_wp2; go_ret2; exact ⟨_, rfl, own_back hb1 HO.out, below_trans hb1 hb2⟩)
  · have HC : Hid (Us w (.slice (some ⟨b, off + (p + 1), none⟩) (n - (p + 1)) (cap - (p + 1))) (L.drop (p + 1))) := by
      have := Us.part hu (p + 1) n f4 (Nat.le_refl _) c1
      rw [List.take_of_length_le (by simp; omega)] at this
      exact this
    clear hq3 hq4 hq6
    go_enter Try.func14, Try.ntmps14
    go_wp2_with (first | (go_at_call 28; refine (find_any _ L _ _ _ hu (by omega) (by omega)).mono ?_; rintro e w1 ⟨rfl, hb1⟩))
    go_region_with (go_at_call 31; refine (concat2 _ _ _ _ w1 (HA.out.below hb1) (HC.out.below hb1) (by rw [List.length_take, List.length_drop]; omega)).mono ?_; rintro e w2 ⟨v, rfl, hown, hb2⟩)
    all_goals (rw [HP.out] at hown; have HO := hid hown; clear hown; go_wp2; go_ret2; exact ⟨_, rfl, own_back hb1 HO.out, below_trans hb1 hb2⟩)
set_option maxRecDepth 100000 in
set_option maxHeartbeats 1000000 in
theorem out_no (h : Int) (L : List Int) (v : Value) (i : Int) (w : World) (hu : Us w v L) (h0 : 0 ≤ i) (h1 : i ≤ 18446744073709551615) (hE : M.outE h L i ≠ 0) :
    Calls Try.prog 14 #[.int .i64 h, v, .int .u64 i] w fun e w' => e = .returned (.tuple #[.slice none 0 0, .int .i64 (M.outE h L i)]) ∧ Below w.heap.size w w' := by
  by_cases hf : M.findE h L i = 0
  · cases hh : M.has L i
    · have e1 : M.outE h L i = 4 := by unfold M.outE; rw [if_pos hf, hh]; simp
      have e2 : M.hasV h L i = false := by unfold M.hasV; rw [hh]; simp
      rw [e1]
      clear hE e1
      go_enter Try.func14, Try.ntmps14
      go_wp2_with (first | (go_at_call 28; refine (find_any _ L _ _ _ hu (by omega) (by omega)).mono ?_; rintro e w1 ⟨rfl, hb1⟩))
      go_ret2
      exact ⟨rfl, hb1⟩
    · exact absurd (by unfold M.outE; rw [if_pos hf, hh]; simp) hE
  · have e1 : M.outE h L i = 1 := by unfold M.outE; rw [if_neg hf]
    have e2 : M.findE h L i = 1 := by
      unfold M.findE at hf ⊢
      cases hx : (M.setB h L && M.isB h i)
      · rfl
      · rw [hx] at hf; simp at hf
    rw [e1]
    clear hE e1 hf
    go_enter Try.func14, Try.ntmps14
    go_wp2_with (first | (go_at_call 28; refine (find_any _ L _ _ _ hu (by omega) (by omega)).mono ?_; rintro e w1 ⟨rfl, hb1⟩))
    go_ret2
    exact ⟨rfl, hb1⟩
end Go.Proofs.Ytbgfbhfjlphpkaa
