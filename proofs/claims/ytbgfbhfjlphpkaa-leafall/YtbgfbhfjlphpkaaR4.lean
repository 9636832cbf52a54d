/-
  What the document's own answers Is, Above and Meet come to at every input. Conditions: the numbers fit their kinds.
-/
import Derived.Test.YtbgfbhfjlphpkaaR3
import Derived.Deep.QuietTactic
import Derived.BigQuiet
namespace Go.Proofs.Ytbgfbhfjlphpkaa
open Go.RowKit
theorem M.abv_chain {a b : Int} (k : Nat) (hb : 1 ≤ b) (hk : (k : Int) ≤ M.dep b) : M.up b k = a ↔ M.dep a = k ∧ M.abv a b = true := by
  constructor
  · intro h
    have h1 := M.up_dep hb (show 0 ≤ (k : Int) by omega) hk
    rw [← h]
    exact ⟨h1, M.abv_up hb (by omega) hk⟩
  · intro ⟨h1, h2⟩
    have := (M.abv_iff.1 h2).2
    rw [h1] at this; exact this
theorem M.abv_meets {a b : Int} (ha : 1 ≤ a) (hb : 1 ≤ b) : ∃ e : Nat, (e : Int) ≤ M.dep a ∧ M.meet a b = M.up a e ∧ ∀ k : Nat, (k : Int) ≤ M.dep a → M.abv (M.up a k) b = decide (k ≤ e) := by
  obtain ⟨f, f0, f1, f2, f3, f4, f5⟩ := M.meet_spec ha hb
  obtain ⟨e, rfl⟩ := Int.eq_ofNat_of_zero_le f0
  refine ⟨e, f1, f3, fun k hk => ?_⟩
  rw [Bool.eq_iff_iff, M.abv_iff, M.up_dep ha (by omega) hk]
  simp only [decide_eq_true_eq]
  constructor
  · intro ⟨g1, g2⟩
    by_cases hc : k ≤ e
    · exact hc
    · exfalso
      refine f5 (by omega) (by omega) (M.up_eq_mono ha hb (by omega) (show (e : Int) + 1 ≤ k by omega) hk g1 g2.symm)
  · intro hc
    exact ⟨by omega, (M.up_eq_mono ha hb (by omega) (show (k : Int) ≤ e by omega) f1 f2 (f3.symm.trans f4)).symm⟩
theorem M.up_zero {n : Int} (hn : 1 ≤ n) : M.up n 0 = 1 := by
  have h := M.up_bd hn (Int.le_refl 0) (M.dep_nonneg n)
  rw [M.p2_zero] at h; omega
end Go.Proofs.Ytbgfbhfjlphpkaa
