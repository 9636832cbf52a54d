/-
  What the document's own answers Is, Above and Meet come to at every input. Conditions: the numbers fit their kinds.
-/
import Derived.Test.YthmiieiajfghnaaZR3
import Derived.Deep.QuietTactic
import Derived.BigQuiet
namespace Go.Proofs.Ythmiieiajfghnaa
open Go.RowKit
theorem M.abv_chain {a b : Int} (k : Nat) (hb : 1 ≤ b) (hk : (k : Int) ≤ M.dep b) : M.up b k = a ↔ M.dep a = k ∧ M.abv a b = true := by
  constructor
  · intro h
    have h1 := M.up_dep hb (show 0 ≤ (k : Int) by omega) hk
    rw [← h]
    exact ⟨h1, M.abv_up hb (by omega) hk⟩
  · intro ⟨h1, h2⟩
    have := (M.abv_iff.1 h2).2
    rw [h1] at this; exact this
set_option maxRecDepth 100000 in
set_option maxHeartbeats 400000 in
theorem is_any (a b : Int) (w : World) (h2 : 1 ≤ b) (h3 : b ≤ 18446744073709551615) :
    Calls Try.prog 39 #[.int .u64 a, .int .u64 b] w fun e w' => e = .returned (.bool (M.abv a b)) ∧ Below w.heap.size w w' := by
  obtain ⟨m, hm⟩ : ∃ m : Nat, M.dep b = m := ⟨(M.dep b).toNat, by have := M.dep_nonneg b; omega⟩
  have hm63 := M.dep_63 h2 h3
  have HL : Hid (∀ k : Nat, k ≤ m → (M.chainL b)[k]? = some (M.up b k)) := fun k hk => M.chainL_at b k (by omega)
  have HA : Hid (∀ k : Nat, k ≤ m → (M.up b k = a ↔ M.dep a = k ∧ M.abv a b = true)) := fun k hk => M.abv_chain k h2 (by omega)
  have HD : Hid (M.abv a b = true → M.dep a ≤ m) := fun h => by have := (M.abv_iff.1 h).1; omega
  have hd0 := M.dep_nonneg a
  go_enter Try.func39, Try.ntmps39
  go_wp2_with (first | (go_at_call 38; refine (chain_any m _ _ (by omega) (by omega) (by omega)).mono ?_; rintro e w1 ⟨g, cap, rfl, hown, hbel⟩))
  go_loop [10] (fun i => ∃ k : Nat, k ≤ m + 1 ∧ i = .int .i64 k ∧ (∀ j : Nat, j < k → ¬ (M.dep a = j ∧ M.abv a b = true))) (fun i => m + 1 - (intOf i).toNat)
  case atStart => exact ⟨0, by omega, rfl, fun j hj => absurd hj (by omega)⟩
  case round =>
    obtain ⟨k, hk, rfl, hno⟩ := hrel
    have HN : Hid _ := hno
    clear hno
    by_cases hlt : k < m + 1
    · have hcl : w1.cell? ⟨g, k, none⟩ = some (.int .u64 (M.up b k)) := by
        rw [hown.cellAt k (by omega)]; unfold u64s; rw [List.getElem?_map, HL.out k (by omega)]; rfl
      by_cases heq : M.up b k = a
      · have hab := ((HA.out k (by omega)).1 heq).2
        have heq' : (M.up b k == a) = true := by rw [beq_iff_eq]; exact heq
        clear hown HL HA HD HN heq
        go_wp2
        go_ret
        exact ⟨rfl, hbel⟩
      · have heq' : (M.up b k == a) = false := by rw [beq_eq_false_iff_ne]; exact heq
        have hnk := fun hh => heq ((HA.out k (by omega)).2 hh)
        have HN2 : Hid (∀ j : Nat, j < k + 1 → ¬ (M.dep a = j ∧ M.abv a b = true)) := by
          intro j hj
          by_cases hjk : j = k
          · subst hjk; exact hnk
          · exact HN.out j (by omega)
        clear hown HL HA HD HN heq hnk
        go_wp2
        go_round
        case rel => exact ⟨k + 1, by omega, by go_num, HN2.out⟩
        case measure => simp [intOf]; omega
    · have hab : M.abv a b = false := by
        cases hx : M.abv a b
        · rfl
        · exfalso
          have h5 := HD.out hx
          exact HN.out (M.dep a).toNat (by omega) ⟨by omega, hx⟩
      clear hown HL HA HD HN
      go_wp2
      go_ret
      exact ⟨rfl, hbel⟩
theorem M.abv_meets {a b : Int} (ha : 1 ≤ a) (hb : 1 ≤ b) : ∃ e : Nat, (e : Int) ≤ M.dep a ∧ M.meet a b = M.up a e ∧ ∀ k : Nat, (k : Int) ≤ M.dep a → M.abv (M.up a k) b = decide (k ≤ e) := by
  obtain ⟨f, f0, f1, f2, f3, f4, f5⟩ := M.meet_spec ha hb
  obtain ⟨e, rfl⟩ := Int.eq_ofNat_of_zero_le f0
  refine ⟨e, f1, f3, fun k hk => ?_⟩
  rw [Bool.eq_iff_iff, M.abv_iff, M.up_dep ha (by omega) hk]
  simp only [decide_eq_true_eq]
  constructor
  · intro ⟨g1, g2⟩
    by_cases hc : k ≤ e
    · exact hc
    · exfalso
      refine f5 (by omega) (by omega) (M.up_eq_mono ha hb (by omega) (show (e : Int) + 1 ≤ k by omega) hk g1 g2.symm)
  · intro hc
    exact ⟨by omega, (M.up_eq_mono ha hb (by omega) (show (k : Int) ≤ e by omega) f1 f2 (f3.symm.trans f4)).symm⟩
theorem M.up_zero {n : Int} (hn : 1 ≤ n) : M.up n 0 = 1 := by
  have h := M.up_bd hn (Int.le_refl 0) (M.dep_nonneg n)
  rw [M.p2_zero] at h; omega
end Go.Proofs.Ythmiieiajfghnaa
