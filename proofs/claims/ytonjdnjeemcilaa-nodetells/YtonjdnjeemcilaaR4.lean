/-
  What the document's own answers Is, Above and Meet come to at every input. Conditions: the numbers fit their kinds.
-/
import Derived.Test.YtonjdnjeemcilaaR3
import Derived.Deep.QuietTactic
import Derived.BigQuiet
namespace Go.Proofs.Ytonjdnjeemcilaa
open Go.RowKit
theorem M.abv_chain {a b : Int} (k : Nat) (hb : 1 ≤ b) (hk : (k : Int) ≤ M.dep b) : M.up b k = a ↔ M.dep a = k ∧ M.abv a b = true := by
  constructor
  · intro h
    have h1 := M.up_dep hb (show 0 ≤ (k : Int) by omega) hk
    rw [← h]
    exact ⟨h1, M.abv_up hb (by omega) hk⟩
  · intro ⟨h1, h2⟩
    have := (M.abv_iff.1 h2).2
    rw [h1] at this; exact this
set_option maxRecDepth 100000 in
set_option maxHeartbeats 400000 in
theorem is_any (a b : Int) (w : World) (h2 : 1 ≤ b) (h3 : b ≤ 18446744073709551615) :
    Calls Try.prog 42 #[.int .u64 a, .int .u64 b] w fun e w' => e = .returned (.bool (M.abv a b)) ∧ Below w.heap.size w w' := by
  obtain ⟨m, hm⟩ : ∃ m : Nat, M.dep b = m := ⟨(M.dep b).toNat, by have := M.dep_nonneg b; omega⟩
  have hm63 := M.dep_63 h2 h3
  have HL : Hid (∀ k : Nat, k ≤ m → (M.chainL b)[k]? = some (M.up b k)) := fun k hk => M.chainL_at b k (by omega)
  have HA : Hid (∀ k : Nat, k ≤ m → (M.up b k = a ↔ M.dep a = k ∧ M.abv a b = true)) := fun k hk => M.abv_chain k h2 (by omega)
  have HD : Hid (M.abv a b = true → M.dep a ≤ m) := fun h => by have := (M.abv_iff.1 h).1; omega
  have hd0 := M.dep_nonneg a
  go_enter Try.func42, Try.ntmps42
  go_wp2_with (first | (go_at_call 37; refine (chain_any m _ _ (by omega) (by omega) (by omega)).mono ?_; rintro e w1 ⟨g, cap, rfl, hown, hbel⟩))
  go_loop [10] (fun i => ∃ k : Nat, k ≤ m + 1 ∧ i = .int .i64 k ∧ (∀ j : Nat, j < k → ¬ (M.dep a = j ∧ M.abv a b = true))) (fun i => m + 1 - (intOf i).toNat)
  case atStart => exact ⟨0, by omega, rfl, fun j hj => absurd hj (by omega)⟩
  case round =>
    obtain ⟨k, hk, rfl, hno⟩ := hrel
    have HN : Hid _ := hno
    clear hno
    by_cases hlt : k < m + 1
    · have hcl : w1.cell? ⟨g, k, none⟩ = some (.int .u64 (M.up b k)) := by
        rw [hown.cellAt k (by omega)]; unfold u64s; rw [List.getElem?_map, HL.out k (by omega)]; rfl
      by_cases heq : M.up b k = a
      · have hab := ((HA.out k (by omega)).1 heq).2
        have heq' : (M.up b k == a) = true := by rw [beq_iff_eq]; exact heq
        clear hown HL HA HD HN heq
        go_wp2
        go_ret
        exact ⟨rfl, hbel⟩
      · have heq' : (M.up b k == a) = false := by rw [beq_eq_false_iff_ne]; exact heq
        have hnk := fun hh => heq ((HA.out k (by omega)).2 hh)
        have HN2 : Hid (∀ j : Nat, j < k + 1 → ¬ (M.dep a = j ∧ M.abv a b = true)) := by
          intro j hj
          by_cases hjk : j = k
          · subst hjk; exact hnk
          · exact HN.out j (by omega)
        clear hown HL HA HD HN heq hnk
        go_wp2
        go_round
        case rel => exact ⟨k + 1, by omega, by go_num, HN2.out⟩
        case measure => simp [intOf]; omega
    · have hab : M.abv a b = false := by
        cases hx : M.abv a b
        · rfl
        · exfalso
          have h5 := HD.out hx
          exact HN.out (M.dep a).toNat (by omega) ⟨by omega, hx⟩
      clear hown HL HA HD HN
      go_wp2
      go_ret
      exact ⟨rfl, hbel⟩
set_option maxHeartbeats 400000 in
theorem rabove_any (h a b : Int) (w : World) (h0 : 0 ≤ a) (h1 : a ≤ 18446744073709551615) (h2 : 0 ≤ b) (h3 : b ≤ 18446744073709551615) :
    Calls Try.prog 26 #[.int .i64 h, .int .u64 a, .int .u64 b] w fun e w' => e = .returned (.tuple #[.bool (M.abvV h a b), .int .i64 (M.eBoth h a b)]) ∧ Below w.heap.size w w' := by
  cases hka : M.okB h a
  · have E : M.eBoth h a b = 1 := by unfold M.eBoth; rw [hka]; rfl
    have V : M.abvV h a b = false := by unfold M.abvV; rw [hka]; rfl
    go_enter Try.func26, Try.ntmps26
    go_wp2_with (first | (go_at_call 36; refine (may_any _ _ _ (by omega) (by omega)).mono ?_; rintro e w' ⟨rfl, hw⟩; subst w'))
    go_ret2
    rw [E, V]; exact ⟨rfl, Below.refl _ _⟩
  · cases hkb : M.okB h b
    · have E : M.eBoth h a b = 1 := by unfold M.eBoth; rw [hka, hkb]; rfl
      have V : M.abvV h a b = false := by unfold M.abvV; rw [hka, hkb]; rfl
      go_enter Try.func26, Try.ntmps26
      go_wp2_with (first | (go_at_call 36; refine (may_any _ _ _ (by omega) (by omega)).mono ?_; rintro e w' ⟨rfl, hw⟩; subst w'))
      go_ret2
      rw [E, V]; exact ⟨rfl, Below.refl _ _⟩
    · have E := M.eBoth_ok hka hkb
      have V := M.abvV_ok hka hkb
      have k1 := (M.ok_of hka).2.2.1
      have k2 := (M.ok_of hkb).2.2.1
      go_enter Try.func26, Try.ntmps26
      go_wp2_with (first | (go_at_call 36; refine (may_any _ _ _ (by omega) (by omega)).mono ?_; rintro e w' ⟨rfl, hw⟩; subst w') | (go_at_call 42; refine (is_any _ _ _ (by omega) (by omega)).mono ?_; rintro e w2 ⟨rfl, hb2⟩))
      go_ret2
      rw [E, V]; exact ⟨rfl, hb2⟩
theorem M.abv_meets {a b : Int} (ha : 1 ≤ a) (hb : 1 ≤ b) : ∃ e : Nat, (e : Int) ≤ M.dep a ∧ M.meet a b = M.up a e ∧ ∀ k : Nat, (k : Int) ≤ M.dep a → M.abv (M.up a k) b = decide (k ≤ e) := by
  obtain ⟨f, f0, f1, f2, f3, f4, f5⟩ := M.meet_spec ha hb
  obtain ⟨e, rfl⟩ := Int.eq_ofNat_of_zero_le f0
  refine ⟨e, f1, f3, fun k hk => ?_⟩
  rw [Bool.eq_iff_iff, M.abv_iff, M.up_dep ha (by omega) hk]
  simp only [decide_eq_true_eq]
  constructor
  · intro ⟨g1, g2⟩
    by_cases hc : k ≤ e
    · exact hc
    · exfalso
      refine f5 (by omega) (by omega) (M.up_eq_mono ha hb (by omega) (show (e : Int) + 1 ≤ k by omega) hk g1 g2.symm)
  · intro hc
    exact ⟨by omega, (M.up_eq_mono ha hb (by omega) (show (k : Int) ≤ e by omega) f1 f2 (f3.symm.trans f4)).symm⟩
theorem M.up_zero {n : Int} (hn : 1 ≤ n) : M.up n 0 = 1 := by
  have h := M.up_bd hn (Int.le_refl 0) (M.dep_nonneg n)
  rw [M.p2_zero] at h; omega
set_option maxRecDepth 100000 in
set_option maxHeartbeats 400000 in
theorem rmeet_any (h a b : Int) (w : World) (h0 : 0 ≤ a) (h1 : a ≤ 18446744073709551615) (h2 : 0 ≤ b) (h3 : b ≤ 18446744073709551615) :
    Calls Try.prog 28 #[.int .i64 h, .int .u64 a, .int .u64 b] w fun e w' => e = .returned (.tuple #[.int .u64 (M.meetV h a b), .int .i64 (M.eBoth h a b)]) ∧ Below w.heap.size w w' := by
  cases hka : M.okB h a
  · have E : M.eBoth h a b = 1 := by unfold M.eBoth; rw [hka]; rfl
    have V : M.meetV h a b = 0 := by unfold M.meetV; rw [E]; rfl
    go_enter Try.func28, Try.ntmps28
    go_wp2_with (first | (go_at_call 36; refine (may_any _ _ _ (by omega) (by omega)).mono ?_; rintro e w' ⟨rfl, hw⟩; subst w'))
    go_ret2
    rw [E, V]; exact ⟨rfl, Below.refl _ _⟩
  · cases hkb : M.okB h b
    · have E : M.eBoth h a b = 1 := by unfold M.eBoth; rw [hka, hkb]; rfl
      have V : M.meetV h a b = 0 := by unfold M.meetV; rw [E]; rfl
      go_enter Try.func28, Try.ntmps28
      go_wp2_with (first | (go_at_call 36; refine (may_any _ _ _ (by omega) (by omega)).mono ?_; rintro e w' ⟨rfl, hw⟩; subst w'))
      go_ret2
      rw [E, V]; exact ⟨rfl, Below.refl _ _⟩
    · have E := M.eBoth_ok hka hkb
      have V := M.meetV_ok hka hkb
      have k1 := (M.ok_of hka).2.2.1
      have k2 := (M.ok_of hkb).2.2.1
      have k3 := (M.ok_dep hka).2
      have k4 := (M.ok_of hka).2.1
      obtain ⟨m, hm⟩ : ∃ m : Nat, M.dep a = m := ⟨(M.dep a).toNat, by have := M.dep_nonneg a; omega⟩
      obtain ⟨f, f1, f2, f3⟩ := M.abv_meets k1 k2
      have HL : Hid (∀ k : Nat, k ≤ m → (M.chainL a)[k]? = some (M.up a k)) := fun k hk => M.chainL_at a k (by omega)
      have HA : Hid (∀ k : Nat, k ≤ m → M.abv (M.up a k) b = decide (k ≤ f)) := fun k hk => f3 k (by omega)
      have HU : Hid (∀ k : Nat, k ≤ m → 1 ≤ M.up a k) := fun k hk => M.up_pos k1 (by omega) (by omega)
      have HV : Hid (M.meetV h a b = M.up a f) := V.trans f2
      have HZ : Hid (M.up a 0 = 1) := M.up_zero k1
      rw [hm] at f1
      clear f2 f3 V
      go_enter Try.func28, Try.ntmps28
      go_wp2_with (first | (go_at_call 36; refine (may_any _ _ _ (by omega) (by omega)).mono ?_; rintro e w' ⟨rfl, hw⟩; subst w') | (go_at_call 37; refine (chain_any m _ _ (by omega) (by omega) (by omega)).mono ?_; rintro e w1 ⟨g, cap, rfl, hown, hbel⟩))
      go_loopw [24, 8] (fun i t wr => ∃ k : Nat, k ≤ m + 1 ∧ i = .int .i64 k ∧ t = .int .u64 (M.up a ((min (k - 1) f : Nat) : Int)) ∧ wr.ownsRow w.heap.size 22 1 (.slice (some ⟨g, 0, none⟩) (m + 1) cap) (m + 1) (u64s (M.chainL a)) ∧ Below w.heap.size w wr) (fun i _ _ => m + 1 - (intOf i).toNat)
      case atStart => exact ⟨0, by omega, rfl, by rw [show ((min (0 - 1) f : Nat) : Int) = 0 by omega, HZ.out], hown, hbel⟩
      case round =>
        clear hown hbel
        obtain ⟨k, hk, rfl, rfl, hown, hbel⟩ := hrel
        by_cases hlt : k < m + 1
        · have hcl : wr.cell? ⟨g, k, none⟩ = some (.int .u64 (M.up a k)) := by
            rw [hown.cellAt k (by omega)]; unfold u64s; rw [List.getElem?_map, HL.out k (by omega)]; rfl
          have hu := HU.out k (by omega)
          have hA := HA.out k (by omega)
          have HO : Hid (wr.ownsRow w.heap.size 22 1 (.slice (some ⟨g, 0, none⟩) (m + 1) cap) (m + 1) (u64s (M.chainL a))) := hown
          by_cases hc : k ≤ f
          · rw [decide_eq_true hc] at hA
            have HX : Hid (M.up a ((min (k + 1 - 1) f : Nat) : Int) = M.up a k) := by show _ = _; congr 1; omega
            clear hown HL HA HU HZ
            generalize M.up a ((min (k - 1) f : Nat) : Int) = old at *
            generalize M.up a (k : Int) = x at *
            go_wp2_with (first | (go_at_call 42; refine (is_any _ _ _ (by omega) (by omega)).mono ?_; rintro e w2 ⟨rfl, hb2⟩))
            go_roundw
            case rel => exact ⟨k + 1, by omega, by go_num, by rw [HX.out], own_kept HO.out hb2, below_trans hbel hb2⟩
            case measure => simp [intOf]; omega
          · rw [decide_eq_false hc] at hA
            have HX : Hid (M.up a ((min (k + 1 - 1) f : Nat) : Int) = M.up a ((min (k - 1) f : Nat) : Int)) := by show _ = _; congr 2; omega
            clear hown HL HA HU HZ
            generalize M.up a ((min (k - 1) f : Nat) : Int) = old at *
            generalize M.up a (k : Int) = x at *
            go_wp2_with (first | (go_at_call 42; refine (is_any _ _ _ (by omega) (by omega)).mono ?_; rintro e w2 ⟨rfl, hb2⟩))
            go_roundw
            case rel => exact ⟨k + 1, by omega, by go_num, by rw [HX.out], own_kept HO.out hb2, below_trans hbel hb2⟩
            case measure => simp [intOf]; omega
        · obtain rfl : k = m + 1 := by omega
          have hfin : M.up a ((min (m + 1 - 1) f : Nat) : Int) = M.meetV h a b := by rw [HV.out]; congr 2; omega
          clear hown HL HA HU HZ
          go_wp2
          go_ret2
          refine ⟨?_, hbel⟩
          show Ending.returned (.tuple #[.int .u64 (M.up a ((min (m + 1 - 1) f : Nat) : Int)), .int .i64 0]) = _
          rw [hfin]; first | rfl | rw [E]
end Go.Proofs.Ytonjdnjeemcilaa
