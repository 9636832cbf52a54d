/-
  How many useful subsets are beside the way to a leaf; what the document's own Pairs answers. Conditions: numbers fit their kind.
-/
import Derived.Test.YtmicgojojkkkhaaZTR
import Derived.Test.YtmicgojojkkkhaaZX50
namespace Go.Proofs.Ytmicgojojkkkhaa
open Go.RowKit
set_option maxRecDepth 100000 in
theorem own_cellu {W : World} {base g n cap : Nat} {L : List Int} (h : W.ownsRow base 25 1 (.slice (some ⟨g, 0, none⟩) n cap) n (u64s L)) {k : Nat} {x : Int} (hk : L[k]? = some x) : W.cell? ⟨g, k, none⟩ = some (.int .u64 x) := by
  have hl := (List.getElem?_eq_some_iff.1 hk).1
  have h1 := h.1
  have h2 : (u64s L).length = L.length := by simp [u64s]
  rw [h.cellAt k (by omega)]
  simp [u64s, hk]
theorem own_cap {W : World} {base g n cap : Nat} {e : TypeId} {xs : List Value} (h : W.ownsRow base e 1 (.slice (some ⟨g, 0, none⟩) n cap) n xs) : n ≤ cap ∧ cap ≤ 9223372036854775807 := by
  rcases h.2 with ⟨h1, h2⟩ | ⟨g', cap', cur, h1, h2, h3, h4, h5, h6, h7⟩
  · cases h1
  · cases h1; unfold maxLen at h5; omega
end Go.Proofs.Ytmicgojojkkkhaa
