/-
  What the library's search in a rising slice of numbers tells. Conditions: the slice holds numbers that fit, and rises.
-/
import Derived.Test.YthmiieiajfghnaaZF1
namespace Go.Proofs.Ythmiieiajfghnaa
open Go.RowKit
set_option maxHeartbeats 400000 in
theorem isNaN_cmp (x : Int) (w : World) : Calls Try.prog 69 #[.int .u64 x] w fun e w' => e = .returned (.bool false) ∧ w' = w := by
  go_enter Try.func69, Try.ntmps69
  go_wp2
  go_ret
  exact ⟨rfl, rfl⟩
set_option maxHeartbeats 400000 in
theorem isNaN_any (x : Int) (w : World) : Calls Try.prog 62 #[.int .u64 x] w fun e w' => e = .returned (.bool false) ∧ w' = w := by
  go_enter Try.func62, Try.ntmps62
  go_wp2
  go_ret
  exact ⟨rfl, rfl⟩
set_option maxHeartbeats 400000 in
theorem less_any (x y : Int) (w : World) : Calls Try.prog 61 #[.int .u64 x, .int .u64 y] w fun e w' => e = .returned (.bool (decide (x < y))) ∧ w' = w := by
  by_cases h : x < y
  · have hd : decide (x < y) = true := by simpa using h
    rw [hd]
    go_enter Try.func61, Try.ntmps61
    go_wp2_with (first | (go_at_call 69; refine (isNaN_cmp _ _).mono ?_; rintro e w' ⟨rfl, hw⟩; subst w'))
    go_ret
    exact ⟨rfl, rfl⟩
  · have hd : decide (x < y) = false := by simpa using h
    rw [hd]
    go_enter Try.func61, Try.ntmps61
    go_wp2_with (first | (go_at_call 69; refine (isNaN_cmp _ _).mono ?_; rintro e w' ⟨rfl, hw⟩; subst w'))
    go_ret
    exact ⟨rfl, rfl⟩
namespace M
theorem rising_lt {L : List Int} (h : L.Pairwise (· < ·)) {a b : Nat} (hab : a < b) (hb : b < L.length) : L[a]?.getD 0 < L[b]?.getD 0 := by
  have := List.pairwise_iff_getElem.1 h a b (by omega) hb hab
  simpa [show a < L.length by omega, hb] using this
theorem pos_lt {L : List Int} {x : Int} (h : L.Pairwise (· < ·)) {a : Nat} (ha : a < L.length) : a < pos L x ↔ L[a]?.getD 0 < x := by
  have hp := parts x h
  have hg : L[a]? = (L.filter (fun y => decide (y < x)) ++ L.filter (fun y => decide (x ≤ y)))[a]? := by rw [hp]
  constructor
  · intro hlt
    rw [List.getElem?_append_left hlt] at hg
    have hm := List.getElem_mem hlt
    rw [hg, List.getElem?_eq_getElem hlt]
    simpa using (List.mem_filter.1 hm).2
  · intro hlt
    apply Classical.byContradiction
    intro hge
    rw [List.getElem?_append_right (by unfold pos at hge; omega)] at hg
    have hlen : (L.filter (fun y => decide (y < x))).length + (L.filter (fun y => decide (x ≤ y))).length = L.length := by
      rw [← List.length_append, hp]
    have hin : a - (L.filter (fun y => decide (y < x))).length < (L.filter (fun y => decide (x ≤ y))).length := by unfold pos at hge; omega
    have hm := List.getElem_mem hin
    rw [hg, List.getElem?_eq_getElem hin] at hlt
    have := (List.mem_filter.1 hm).2
    simp at this hlt
    omega
theorem has_pos {L : List Int} {x : Int} (h : L.Pairwise (· < ·)) : has L x = true ↔ pos L x < L.length ∧ L[pos L x]?.getD 0 = x := by
  constructor
  · intro hh
    have h1 := drop_pos (i := x) h
    rw [filter_ge_in h hh] at h1
    have h2 := (out_parts h hh).1
    have h3 := congrArg (fun l => l[0]?) h1
    simp at h3
    exact ⟨by omega, by rw [h3]; rfl⟩
  · rintro ⟨h1, h2⟩
    unfold has
    simp only [decide_eq_true_eq]
    rw [← h2]
    simp only [h1, getElem?_pos, Option.getD_some]
    exact List.getElem_mem h1
end M
set_option maxRecDepth 100000 in
set_option maxHeartbeats 1000000 in
theorem search_any (L : List Int) (v : Value) (x : Int) (w : World) (hu : Us w v L) (hL : L.Pairwise (· < ·)) (hlen : L.length ≤ 1024) :
    Calls Try.prog 49 #[v, .int .u64 x] w fun e w' => e = .returned (.tuple #[.int .i64 (M.pos L x), .bool (M.has L x)]) ∧ w' = w := by
  obtain ⟨ao, cap, rfl, hq1, hq2, hq3, hq4⟩ := hu
  have HP : Hid (∀ a, a < L.length → (a < M.pos L x ↔ L[a]?.getD 0 < x)) := fun a ha => M.pos_lt hL ha
  have HH : Hid (M.has L x = true ↔ M.pos L x < L.length ∧ L[M.pos L x]?.getD 0 = x) := M.has_pos hL
  have HPL := M.pos_le L x
  generalize hp : M.pos L x = p at *
  generalize hn : L.length = n at *
  clear hq3 hp hn hL
  go_enter Try.func49, Try.ntmps49
  go_wp2
  go_loop [7, 8] (fun i j => ∃ a b : Nat, i = .int .i64 a ∧ j = .int .i64 b ∧ a ≤ p ∧ p ≤ b ∧ b ≤ n) (fun i j => (intOf j - intOf i).toNat)
  case atStart => exact ⟨0, n, rfl, rfl, by omega, HPL, Nat.le_refl _⟩
  case round =>
    obtain ⟨a, b, rfl, rfl, ha, hb, hbn⟩ := hrel
    by_cases hlt : a < b
    · obtain ⟨bl, off, rfl, hbl, hc⟩ := hq4 (by omega)
      have hcell := hc ((a + b) / 2) (by omega)
      have hpa := HP.out ((a + b) / 2) (by omega)
      have e1 : ((a : Int) + b) / 2 = (((a + b) / 2 : Nat) : Int) := by omega
      have m1 : a ≤ (a + b) / 2 := by omega
      have m2 : (a + b) / 2 < b := by omega
      clear hc hq4 HP HH
      generalize hm : (a + b) / 2 = m at *
      generalize L[m]?.getD 0 = y at *
      by_cases hy : y < x
      · have hp2 : m < p := hpa.2 hy
        clear hpa
        go_wp2_with (first | (go_at_call 61; refine (less_any _ _ _).mono ?_; rintro e w' ⟨rfl, hw⟩; subst w'))
        go_round
        case rel => exact ⟨m + 1, b, by go_num, rfl, by omega, by omega, by omega⟩
        case measure => simp [intOf]; omega
      · have hp2 : ¬ m < p := fun hh => hy (hpa.1 hh)
        clear hpa
        go_wp2_with (first | (go_at_call 61; refine (less_any _ _ _).mono ?_; rintro e w' ⟨rfl, hw⟩; subst w'))
        go_round
        case rel => exact ⟨a, m, rfl, by go_num, by omega, by omega, by omega⟩
        case measure => simp [intOf]; omega
    · obtain rfl : a = p := by omega
      obtain rfl : b = a := by omega
      by_cases hbn' : b < n
      · obtain ⟨bl, off, rfl, hbl, hc⟩ := hq4 (by omega)
        have hcell := hc b (by omega)
        have hh := HH.out
        clear hc hq4 HP HH
        generalize L[b]?.getD 0 = y at *
        by_cases hy : y = x
        · subst hy
          have HF : Hid (M.has L y = true) := hh.2 ⟨hbn', rfl⟩
          clear hh
          go_wp2
          go_ret2
          exact ⟨by rw [HF.out]; first | done | rfl, rfl⟩
        · have HF : Hid (M.has L x = false) := by
            show _ = _
            rw [Bool.eq_false_iff]
            exact fun e => hy (hh.1 e).2
          clear hh
          have g1 : (y == x) = false := by rw [beq_eq_false_iff_ne]; exact hy
          go_wp2
          go_ret2
          exact ⟨by rw [HF.out]; first | done | rfl, rfl⟩
      · have HF : Hid (M.has L x = false) := by
          show _ = _
          rw [Bool.eq_false_iff]
          exact fun e => hbn' (HH.out.1 e).1
        clear HP HH hq4
        go_wp2
        go_ret2
        exact ⟨by rw [HF.out]; first | done | rfl, rfl⟩
end Go.Proofs.Ythmiieiajfghnaa
