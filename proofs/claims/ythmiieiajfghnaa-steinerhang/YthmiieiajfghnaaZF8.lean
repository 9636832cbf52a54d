/-
  What leaf.Below answers at every input. Conditions: the slice holds numbers that fit.
-/
import Derived.Test.YthmiieiajfghnaaZF7
namespace Go.Proofs.Ythmiieiajfghnaa
open Go.RowKit
set_option maxRecDepth 100000 in
theorem concat1 (v1 : Value) (A : List Int) (w : World) (B : Nat) (hB : w.heap.size = B) (hA : Us w v1 A) (hl : A.length ≤ 2000) :
    Calls Try.prog 50 #[.slice (some ⟨B, 0, none⟩) 1 1] (w.alloc (.cells #[v1] 22)) fun e w' =>
      ∃ v, e = .returned v ∧ w'.ownsRow w.heap.size 23 1 v A.length (u64s A) ∧ Below w.heap.size w w' := by
  subst hB
  have hb : Below w.heap.size w (w.alloc (.cells #[v1] 22)) := ((Below.refl _ w).alloc (Nat.le_refl _) _)
  have hflat : [A].flatten = A := by simp
  have key := concat_any [v1] [A] w.heap.size 1 (w.alloc (.cells #[v1] 22)) rfl (by simp) ?_ ?_ (by omega) (by rw [hflat]; omega)
  · refine key.mono ?_
    rw [hflat]
    rintro e w' ⟨v, h1, h2, h3⟩
    exact ⟨v, h1, own_back hb h2, below_trans hb h3⟩
  · intro j hj
    rw [cell_at w #[v1] 22 j]
    match j, hj with
    | 0, _ => rfl
  · intro j hj
    match j, hj with
    | 0, _ => exact hA.below hb
theorem M.belL_part {L : List Int} {lo hi : Int} (h : L.Pairwise (· < ·)) (hl : lo ≤ hi + 1) : M.pos L lo ≤ M.pos L (hi + 1) ∧ (L.drop (M.pos L lo)).take (M.pos L (hi + 1) - M.pos L lo) = M.belL lo hi L := by
  have hle : M.pos L lo ≤ M.pos L (hi + 1) := by
    unfold M.pos
    rw [← List.countP_eq_length_filter, ← List.countP_eq_length_filter]
    refine List.countP_mono_left fun x _ hx => ?_
    simp at hx ⊢; omega
  refine ⟨hle, ?_⟩
  have h1 := M.take_pos (i := hi + 1) h
  have h2 : (L.take (M.pos L (hi + 1))).drop (M.pos L lo) = (L.drop (M.pos L lo)).take (M.pos L (hi + 1) - M.pos L lo) := by rw [List.drop_take]
  rw [← h2, h1]
  have h3 : (L.filter (fun x => decide (x < hi + 1))).take (M.pos L lo) = L.filter (fun x => decide (x < lo)) := by
    rw [← h1, List.take_take, Nat.min_eq_left hle, M.take_pos h]
  have h4 := M.parts (L := L.filter (fun x => decide (x < hi + 1))) lo (h.filter _)
  have h5 : (L.filter (fun x => decide (x < hi + 1))).filter (fun x => decide (x < lo)) = L.filter (fun x => decide (x < lo)) := by
    rw [List.filter_filter]
    refine List.filter_congr fun x _ => ?_
    by_cases hx : x < lo
    · simp [hx]; omega
    · simp [hx]
  rw [h5] at h4
  have h6 : (L.filter (fun x => decide (x < hi + 1))).drop (M.pos L lo) = (L.filter (fun x => decide (x < hi + 1))).filter (fun x => decide (lo ≤ x)) := by
    conv => lhs; rw [← h4]
    unfold M.pos
    exact List.drop_left
  rw [h6, List.filter_filter]
  unfold M.belL
  refine List.filter_congr fun x _ => ?_
  congr 1
  by_cases hx : x ≤ hi
  · simp [hx]; omega
  · simp [hx]; omega
set_option maxRecDepth 100000 in
set_option maxHeartbeats 1000000 in
theorem bel_yes (h : Int) (L : List Int) (v : Value) (n : Int) (w : World) (hu : Us w v L) (h0 : 0 ≤ n) (h1 : n ≤ 18446744073709551615) (hE : M.belE h L n = 0) :
    Calls Try.prog 27 #[.int .i64 h, v, .int .u64 n] w fun e w' => ∃ v', e = .returned (.tuple #[v', .int .i64 0]) ∧ w'.ownsRow w.heap.size 23 1 v' (M.belL (M.low h n) (M.high h n) L).length (u64s (M.belL (M.low h n) (M.high h n) L)) ∧ Below w.heap.size w w' := by
  have hs : M.setB h L = true ∧ M.okB h n = true := by
    unfold M.belE at hE
    cases hx : (M.setB h L && M.okB h n)
    · rw [hx] at hE; simp at hE
    · simpa using hx
  obtain ⟨hs, hk⟩ := hs
  have e1 := M.setE_yes hs
  have e2 := M.eChk_ok hk
  have e3 := M.lowV_ok hk
  have e4 := M.highV_ok hk
  obtain ⟨k1, k2, k3⟩ := M.low_bd hk
  have k4 := M.p2_32 (M.ok_of hk).2.1
  obtain ⟨_, _, hlen, _, hL, _⟩ := M.set_of hs
  obtain ⟨hle, hP⟩ := M.belL_part (lo := M.low h n) (hi := M.high h n) hL (by omega)
  have hto := M.pos_le L (M.high h n + 1)
  generalize M.low h n = lo at *
  generalize M.high h n = hi at *
  clear hE hs hk
  have hu0 := hu
  obtain ⟨ao, cap, rfl, hq1, hq2, hq3, hq4⟩ := hu0
  have HP := hid hP
  clear hP
  generalize hpp : M.pos L lo = p at *
  generalize hqq : M.pos L (hi + 1) = q at *
  have hpl : ((L.drop p).take (q - p)).length ≤ 2000 := by rw [List.length_take, List.length_drop]; omega
  generalize hn : L.length = m at *
  by_cases c0 : cap = 0
  · subst c0
    obtain rfl : m = 0 := by omega
    obtain rfl : q = 0 := by omega
    obtain rfl : p = 0 := by omega
    have hL0 : L = [] := List.eq_nil_of_length_eq_zero hn
    have HA : Hid (Us w (.slice ao 0 0) ((L.drop 0).take (0 - 0))) := by rw [hL0]; exact Us.empty
    clear hL0 hq3 hq4
    cases ao with
    | none =>
      go_enter Try.func27, Try.ntmps27
      go_wp2_with (first | (go_at_call 31; refine (setCheck_any _ L _ _ hu).mono ?_; rintro e w1 ⟨rfl, hb1⟩) | (go_at_call 26; refine (leaves_any _ _ _ (by omega) (by omega)).mono ?_; rintro e w2 ⟨rfl, hb2⟩) | (go_at_call 49; refine (search_any L _ _ _ ((hu.below (below_trans hb1 hb2)).alloc _) hL (by omega)).mono ?_; rintro e w' ⟨rfl, hw⟩; subst w') | (go_at_call 50; refine (concat1 _ _ (w2.alloc _) _ (by simp) ((HA.out.below (below_trans hb1 hb2)).alloc _) (by omega)).mono ?_; rintro e w3 ⟨v, rfl, hown, hb3⟩))
      (rw [HP.out] at hown; have HO := hid hown; have hb4 := (below_trans hb1 hb2).alloc (below_trans hb1 hb2).size (.cells #[.int .u64 lo, .int .u64 hi] 41); clear hown; go_wp2; go_ret2; exact ⟨_, rfl, own_back hb4 HO.out, below_trans hb4 hb3⟩)
    | some a =>
      go_enter Try.func27, Try.ntmps27
      go_wp2_with (first | (go_at_call 31; refine (setCheck_any _ L _ _ hu).mono ?_; rintro e w1 ⟨rfl, hb1⟩) | (go_at_call 26; refine (leaves_any _ _ _ (by omega) (by omega)).mono ?_; rintro e w2 ⟨rfl, hb2⟩) | (go_at_call 49; refine (search_any L _ _ _ ((hu.below (below_trans hb1 hb2)).alloc _) hL (by omega)).mono ?_; rintro e w' ⟨rfl, hw⟩; subst w') | (go_at_call 50; refine (concat1 _ _ (w2.alloc _) _ (by simp) ((HA.out.below (below_trans hb1 hb2)).alloc _) (by omega)).mono ?_; rintro e w3 ⟨v, rfl, hown, hb3⟩))
      (rw [HP.out] at hown; have HO := hid hown; have hb4 := (below_trans hb1 hb2).alloc (below_trans hb1 hb2).size (.cells #[.int .u64 lo, .int .u64 hi] 41); clear hown; go_wp2; go_ret2; exact ⟨_, rfl, own_back hb4 HO.out, below_trans hb4 hb3⟩)
  · obtain ⟨b, off, rfl, hq5, hq6⟩ := hq4 (by omega)
    have c2 : p ≤ cap := by omega
    have c4 : q ≤ cap := by omega
    by_cases c1 : cap = p
    · have HA : Hid (Us w (.slice (some ⟨b, off, none⟩) 0 0) ((L.drop p).take (q - p))) := by
        rw [show q - p = 0 by omega, List.take_zero]; exact Us.empty
      have c3 : q = p := by omega
      clear hq3 hq4 hq6
      subst c1
      subst c3
      go_enter Try.func27, Try.ntmps27
      go_wp2_with (first | (go_at_call 31; refine (setCheck_any _ L _ _ hu).mono ?_; rintro e w1 ⟨rfl, hb1⟩) | (go_at_call 26; refine (leaves_any _ _ _ (by omega) (by omega)).mono ?_; rintro e w2 ⟨rfl, hb2⟩) | (go_at_call 49; refine (search_any L _ _ _ ((hu.below (below_trans hb1 hb2)).alloc _) hL (by omega)).mono ?_; rintro e w' ⟨rfl, hw⟩; subst w') | (go_at_call 50; refine (concat1 _ _ (w2.alloc _) _ (by simp) ((HA.out.below (below_trans hb1 hb2)).alloc _) (by omega)).mono ?_; rintro e w3 ⟨v, rfl, hown, hb3⟩))
      (rw [HP.out] at hown; have HO := hid hown; have hb4 := (below_trans hb1 hb2).alloc (below_trans hb1 hb2).size (.cells #[.int .u64 lo, .int .u64 hi] 41); clear hown; go_wp2; go_ret2; exact ⟨_, rfl, own_back hb4 HO.out, below_trans hb4 hb3⟩)
    · have HA : Hid (Us w (.slice (some ⟨b, off + p, none⟩) (q - p) (cap - p)) ((L.drop p).take (q - p))) := Us.part hu p q hle hto c1
      clear hq3 hq4 hq6
      go_enter Try.func27, Try.ntmps27
      go_wp2_with (first | (go_at_call 31; refine (setCheck_any _ L _ _ hu).mono ?_; rintro e w1 ⟨rfl, hb1⟩) | (go_at_call 26; refine (leaves_any _ _ _ (by omega) (by omega)).mono ?_; rintro e w2 ⟨rfl, hb2⟩) | (go_at_call 49; refine (search_any L _ _ _ ((hu.below (below_trans hb1 hb2)).alloc _) hL (by omega)).mono ?_; rintro e w' ⟨rfl, hw⟩; subst w') | (go_at_call 50; refine (concat1 _ _ (w2.alloc _) _ (by simp) ((HA.out.below (below_trans hb1 hb2)).alloc _) (by omega)).mono ?_; rintro e w3 ⟨v, rfl, hown, hb3⟩))
      (rw [HP.out] at hown; have HO := hid hown; have hb4 := (below_trans hb1 hb2).alloc (below_trans hb1 hb2).size (.cells #[.int .u64 lo, .int .u64 hi] 41); clear hown; go_wp2; go_ret2; exact ⟨_, rfl, own_back hb4 HO.out, below_trans hb4 hb3⟩)
set_option maxHeartbeats 1000000 in
theorem bel_no (h : Int) (L : List Int) (v : Value) (n : Int) (w : World) (hu : Us w v L) (h0 : 0 ≤ n) (h1 : n ≤ 18446744073709551615) (hE : M.belE h L n ≠ 0) :
    Calls Try.prog 27 #[.int .i64 h, v, .int .u64 n] w fun e w' => e = .returned (.tuple #[.slice none 0 0, .int .i64 1]) ∧ Below w.heap.size w w' := by
  cases hs : M.setB h L
  · have e1 := M.setE_no hs
    clear hE hs
    go_enter Try.func27, Try.ntmps27
    go_wp2_with (first | (go_at_call 31; refine (setCheck_any _ L _ _ hu).mono ?_; rintro e w1 ⟨rfl, hb1⟩))
    go_ret2
    exact ⟨rfl, hb1⟩
  · have e1 := M.setE_yes hs
    have e2 : M.eChk h n = 1 := by
      refine M.eChk_nok fun hk => hE ?_
      unfold M.belE; rw [hs, hk]; rfl
    clear hE hs
    go_enter Try.func27, Try.ntmps27
    go_wp2_with (first | (go_at_call 31; refine (setCheck_any _ L _ _ hu).mono ?_; rintro e w1 ⟨rfl, hb1⟩) | (go_at_call 26; refine (leaves_any _ _ _ (by omega) (by omega)).mono ?_; rintro e w2 ⟨rfl, hb2⟩))
    go_ret2
    exact ⟨rfl, (below_trans hb1 hb2).alloc (below_trans hb1 hb2).size _⟩
end Go.Proofs.Ythmiieiajfghnaa
