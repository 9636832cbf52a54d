/-
  What the document's own answers Path and SameInts come to. Conditions: each theorem's own premises.
-/
import Derived.Test.YthmiieiajfghnaaZR5
namespace Go.Proofs.Ythmiieiajfghnaa
open Go.RowKit
/-- what is owned is a slice of that length; each cell lies there -/
theorem own_view {w : World} {base : Nat} {e : TypeId} {v : Value} {n : Nat} {xs : List Value} (h : w.ownsRow base e 1 v n xs) :
    ∃ ao cap, v = .slice ao n cap ∧ (0 < n → ∃ g, ao = some ⟨g, 0, none⟩ ∧ ∀ j, j < n → w.cell? ⟨g, j, none⟩ = xs[j]?) := by
  rcases h.2 with ⟨h1, h2⟩ | ⟨g, cap, cur, h1, h2⟩
  · subst h2; exact ⟨none, 0, h1, fun h => absurd h (by omega)⟩
  · refine ⟨some ⟨g, 0, none⟩, cap, h1, fun _ => ⟨g, rfl, fun j hj => ?_⟩⟩
    subst h1
    exact h.cellAt j (by omega)
end Go.Proofs.Ythmiieiajfghnaa
