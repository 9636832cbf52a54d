/-
  What leaf.With, Without and Below answer at every input. Conditions: the slice holds numbers that fit.
-/
import Derived.Test.YthmiieiajfghnaaZF5
namespace Go.Proofs.Ythmiieiajfghnaa
open Go.RowKit
theorem own_back {w w' : World} {e : TypeId} {v : Value} {n : Nat} {xs : List Value} (hb : Below w.heap.size w w') {w2 : World} (h : w2.ownsRow w'.heap.size e 1 v n xs) : w2.ownsRow w.heap.size e 1 v n xs := own_lower h hb.size
theorem cell_at (w : World) (xs : Array Value) (e : TypeId) (j : Nat) : (w.alloc (.cells xs e)).cell? ⟨w.heap.size, j, none⟩ = xs[j]? := by
  rw [cell_of_row (w.alloc (.cells xs e)) w.heap.size j xs e (0, 0) (heap_alloc_new w _)]
set_option maxRecDepth 100000 in
theorem concat3 (v1 v3 : Value) (A C : List Int) (i : Int) (w : World) (hA : Us w v1 A) (hC : Us w v3 C) (h0 : 0 ≤ i) (h1 : i ≤ 18446744073709551615) (hl : A.length + C.length ≤ 2000) :
    Calls Try.prog 50 #[.slice (some ⟨w.heap.size + 1, 0, none⟩) 3 3] ((w.alloc (.cells #[.int .u64 i] 23)).alloc (.cells #[v1, .slice (some ⟨w.heap.size, 0, none⟩) 1 1, v3] 22)).drew fun e w' =>
      ∃ v, e = .returned v ∧ w'.ownsRow w.heap.size 23 1 v (A ++ ([i] ++ C)).length (u64s (A ++ ([i] ++ C))) ∧ Below w.heap.size w w' := by
  have hb : Below w.heap.size w ((w.alloc (.cells #[.int .u64 i] 23)).alloc (.cells #[v1, .slice (some ⟨w.heap.size, 0, none⟩) 1 1, v3] 22)).drew :=
    (((Below.refl _ w).alloc (Nat.le_refl _) _).alloc (by simp) _).drew
  have hflat : [A, [i], C].flatten = A ++ ([i] ++ C) := by simp
  have hm : Us (w.alloc (.cells #[.int .u64 i] 23)) (.slice (some ⟨w.heap.size, 0, none⟩) 1 1) [i] := by
    refine ⟨_, _, rfl, by simp, by unfold maxLen; omega, by simp; omega, fun _ => ⟨w.heap.size, 0, rfl, by simp, fun j hj => ?_⟩⟩
    match j, hj with
    | 0, _ => rw [Nat.zero_add, cell_at]; rfl
  have hM := hm.alloc (.cells #[v1, .slice (some ⟨w.heap.size, 0, none⟩) 1 1, v3] 22)
  have key := concat_any [v1, .slice (some ⟨w.heap.size, 0, none⟩) 1 1, v3] [A, [i], C] (w.heap.size + 1) 3 ((w.alloc (.cells #[.int .u64 i] 23)).alloc (.cells #[v1, .slice (some ⟨w.heap.size, 0, none⟩) 1 1, v3] 22)).drew rfl (by simp) ?_ ?_ (by omega) (by rw [hflat]; simp; omega)
  · refine key.mono ?_
    rw [hflat]
    rintro e w' ⟨v, h1, h2, h3⟩
    exact ⟨v, h1, own_back hb h2, below_trans hb h3⟩
  · intro j hj
    have hc := cell_at (w.alloc (.cells #[.int .u64 i] 23)) #[v1, .slice (some ⟨w.heap.size, 0, none⟩) 1 1, v3] 22 j
    rw [World.size_alloc] at hc
    show World.cell? ((w.alloc _).alloc _) _ = _
    rw [hc]
    match j, hj with
    | 0, _ => rfl
    | 1, _ => rfl
    | 2, _ => rfl
  · intro j hj
    match j, hj with
    | 0, _ => exact hA.below hb
    | 1, _ => exact hM.drew
    | 2, _ => exact hC.below hb
theorem M.withE_zero {h : Int} {L : List Int} {i : Int} (hE : M.withE h L i = 0) : M.findE h L i = 0 ∧ M.has L i = false ∧ M.hasV h L i = false ∧ M.findN h L i = (M.pos L i : Nat) ∧ M.setB h L = true ∧ L.length < 1024 ∧ M.isB h i = true := by
  unfold M.withE at hE
  by_cases hf : M.findE h L i = 0
  · rw [if_pos hf] at hE
    cases hh : M.has L i
    · rw [hh] at hE
      have hs : M.setB h L = true ∧ M.isB h i = true := by
        have := hf
        unfold M.findE at this
        cases hx : (M.setB h L && M.isB h i)
        · rw [hx] at this; simp at this
        · simpa using hx
      have hl := (M.set_of hs.1).2.2.1
      refine ⟨hf, rfl, by unfold M.hasV; rw [hh]; simp, by unfold M.findN; rw [if_pos hf], hs.1, ?_, hs.2⟩
      by_cases h6 : L.length = 1024
      · simp [h6] at hE
      · omega
    · rw [hh] at hE; simp at hE
  · rw [if_neg hf] at hE; simp at hE
set_option maxRecDepth 100000 in
set_option maxHeartbeats 1000000 in
theorem with_yes (h : Int) (L : List Int) (v : Value) (i : Int) (w : World) (hu : Us w v L) (h0 : 0 ≤ i) (h1 : i ≤ 18446744073709551615) (hE : M.withE h L i = 0) :
    Calls Try.prog 28 #[.int .i64 h, v, .int .u64 i] w fun e w' => ∃ v', e = .returned (.tuple #[v', .int .i64 0]) ∧ w'.ownsRow w.heap.size 23 1 v' (M.withL L i).length (u64s (M.withL L i)) ∧ Below w.heap.size w w' := by
  obtain ⟨f0, f3', f1, f2, f5, f3, _⟩ := M.withE_zero hE
  have hL := (M.set_of f5).2.2.2.2.1
  have f4 := M.pos_le L i
  have HP := hid (M.with_parts hL f3')
  clear f5 hE hL f3'
  have hu0 := hu
  obtain ⟨ao, cap, rfl, hq1, hq2, hq3, hq4⟩ := hu0
  generalize M.pos L i = p at *
  generalize hn : L.length = n at *
  by_cases c0 : cap = 0
  · subst c0
    obtain rfl : n = 0 := by omega
    obtain rfl : p = 0 := by omega
    have hL0 : L = [] := List.eq_nil_of_length_eq_zero hn
    have HA : Hid (Us w (.slice ao 0 0) (L.take 0)) := by rw [List.take_zero]; exact Us.empty
    have HC : Hid (Us w (.slice ao 0 0) (L.drop 0)) := by rw [List.drop_zero, hL0]; exact Us.empty
    clear hL0 hq3 hq4
    cases ao with
    | none =>
      go_enter Try.func28, Try.ntmps28
      go_wp2_with (first | (go_at_call 48; refine (find_any _ L _ _ _ hu (by omega) (by omega)).mono ?_; rintro e w1 ⟨rfl, hb1⟩))
      go_region_with (go_at_call 50; refine (concat3 _ _ _ _ i w1 (HA.out.below hb1) (HC.out.below hb1) h0 h1 (by rw [List.length_take, List.length_drop]; omega)).mono ?_; rintro e w2 ⟨v, rfl, hown, hb2⟩)
      all_goals (rw [HP.out] at hown; have HO := hid hown; clear hown; go_wp2; go_ret2; exact ⟨_, rfl, own_back hb1 HO.out, below_trans hb1 hb2⟩)
    | some a =>
      go_enter Try.func28, Try.ntmps28
      go_wp2_with (first | (go_at_call 48; refine (find_any _ L _ _ _ hu (by omega) (by omega)).mono ?_; rintro e w1 ⟨rfl, hb1⟩))
      go_region_with (go_at_call 50; refine (concat3 _ _ _ _ i w1 (HA.out.below hb1) (HC.out.below hb1) h0 h1 (by rw [List.length_take, List.length_drop]; omega)).mono ?_; rintro e w2 ⟨v, rfl, hown, hb2⟩)
      all_goals (rw [HP.out] at hown; have HO := hid hown; clear hown; go_wp2; go_ret2; exact ⟨_, rfl, own_back hb1 HO.out, below_trans hb1 hb2⟩)
  · obtain ⟨b, off, rfl, hq5, hq6⟩ := hq4 (by omega)
    have c2 : p ≤ cap := by omega
    have HA : Hid (Us w (.slice (some ⟨b, off, none⟩) p cap) (L.take p)) := by
      have := Us.part hu 0 p (by omega) f4 (fun e => c0 e)
      show Us _ _ _
      simpa using this
    by_cases c1 : cap = p
    · have HC : Hid (Us w (.slice (some ⟨b, off, none⟩) (n - p) (cap - p)) (L.drop p)) := by
        rw [List.drop_of_length_le (by omega), show n - p = 0 by omega, show cap - p = 0 by omega]; exact Us.empty
      have c3 : n = p := by omega
      clear hq3 hq4 hq6
      subst c1
      subst c3
      rw [Nat.sub_self] at HC
      go_enter Try.func28, Try.ntmps28
      go_wp2_with (first | (go_at_call 48; refine (find_any _ L _ _ _ hu (by omega) (by omega)).mono ?_; rintro e w1 ⟨rfl, hb1⟩))
      go_region_with (go_at_call 50; refine (concat3 _ _ _ _ i w1 (HA.out.below hb1) (HC.out.below hb1) h0 h1 (by rw [List.length_take, List.length_drop]; omega)).mono ?_; rintro e w2 ⟨v, rfl, hown, hb2⟩)
      all_goals (rw [HP.out] at hown; have HO := hid hown; clear hown; go_wp2; go_ret2; exact ⟨_, rfl, own_back hb1 HO.out, below_trans hb1 hb2⟩)
    · have HC : Hid (Us w (.slice (some ⟨b, off + p, none⟩) (n - p) (cap - p)) (L.drop p)) := by
        have := Us.part hu p n f4 (Nat.le_refl _) c1
        rw [List.take_of_length_le (by simp; omega)] at this
        exact this
      clear hq3 hq4 hq6
      go_enter Try.func28, Try.ntmps28
      go_wp2_with (first | (go_at_call 48; refine (find_any _ L _ _ _ hu (by omega) (by omega)).mono ?_; rintro e w1 ⟨rfl, hb1⟩))
      go_region_with (go_at_call 50; refine (concat3 _ _ _ _ i w1 (HA.out.below hb1) (HC.out.below hb1) h0 h1 (by rw [List.length_take, List.length_drop]; omega)).mono ?_; rintro e w2 ⟨v, rfl, hown, hb2⟩)
      all_goals (rw [HP.out] at hown; have HO := hid hown; clear hown; go_wp2; go_ret2; exact ⟨_, rfl, own_back hb1 HO.out, below_trans hb1 hb2⟩)
end Go.Proofs.Ythmiieiajfghnaa
