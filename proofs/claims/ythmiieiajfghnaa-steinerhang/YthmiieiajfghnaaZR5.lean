/-
  What the document's own answer Path comes to where there is a path. Conditions: there are such nodes, and one is above the other.
-/
import Derived.Test.YthmiieiajfghnaaZR4
namespace Go.Proofs.Ythmiieiajfghnaa
open Go.RowKit
theorem own_apart {w : World} {b1 b2 : Nat} {e1 e2 : TypeId} {g n1 c1 n2 : Nat} {v : Value} {xs ys : List Value} (h1 : w.ownsRow b1 e1 1 (.slice (some ⟨g, 0, none⟩) n1 c1) n1 xs) (h2 : w.ownsRow b2 e2 1 v n2 ys) (hne : e1 ≠ e2) : v.ownBlock ≠ some g := by
  intro hv
  rcases h2.2 with ⟨h2, _⟩ | ⟨g2, cap2, cur2, h2, _, h3, _⟩
  · rw [h2] at hv; simp [Value.ownBlock] at hv
  · rw [h2] at hv
    simp [Value.ownBlock] at hv
    subst hv
    rcases h1.2 with ⟨h4, _⟩ | ⟨g4, cap4, cur4, h4, _, h5, _⟩
    · simp at h4
    · simp only [Value.slice.injEq, Option.some.injEq, Addr.mk.injEq, and_true] at h4
      obtain ⟨rfl, _⟩ := h4
      rw [h3] at h5
      simp at h5
      exact hne h5.2.symm
/-- on the way down to b: up to a's depth no node is greater than a; behind it each one is, and a is above it -/
theorem M.path_test {a b : Int} (ha : 1 ≤ a) (hb : 1 ≤ b) (hab : M.abv a b = true) (k : Nat) (hk : (k : Int) ≤ M.dep b) :
    ((k : Int) ≤ M.dep a → ¬ a < M.up b k) ∧ (M.dep a < k → a < M.up b k ∧ M.abv a (M.up b k) = true) := by
  obtain ⟨h1, h2⟩ := M.abv_iff.1 hab
  have d0 := M.dep_nonneg a
  constructor
  · intro hka
    have := M.up_up hb (show 0 ≤ (k : Int) by omega) hka h1
    rw [h2] at this
    have := (M.up_bd ha (show 0 ≤ (k : Int) by omega) hka).2.2
    omega
  · intro hka
    have h3 := (M.up_bd hb (show 0 ≤ (k : Int) by omega) hk).1
    have h4 := M.dep_lt a ha
    have h5 := M.p2_mono (show M.dep a + 1 ≤ k by omega)
    rw [M.p2_succ _ d0] at h5
    refine ⟨by omega, ?_⟩
    rw [M.abv_iff, M.up_dep hb (by omega) hk, M.up_up hb d0 (by omega) hk]
    exact ⟨by omega, h2⟩
theorem M.pathL_take {a b : Int} (k : Nat) (d : Nat) (hd : M.dep a = d) (hk : d < k) (hkb : (k : Int) ≤ M.dep b) :
    (M.pathL a b).take (k + 1 - (d + 1)) = (M.pathL a b).take (k - (d + 1)) ++ [M.up b k % 2] := by
  have hl : k - (d + 1) < (M.pathL a b).length := by rw [M.pathL_length]; omega
  rw [show k + 1 - (d + 1) = (k - (d + 1)) + 1 by omega, List.take_succ_eq_append_getElem hl, M.pathL_get]
  congr 4
  omega
end Go.Proofs.Ythmiieiajfghnaa
