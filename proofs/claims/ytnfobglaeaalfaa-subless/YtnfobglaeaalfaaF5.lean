/-
  What the library's Concat of slices of numbers makes: one behind the other, in new memory. Conditions: each theorem's own premises.
-/
import Derived.Test.YtnfobglaeaalfaaF4
namespace Go.Proofs.Ytnfobglaeaalfaa
open Go.RowKit
theorem flat_take {Ls : List (List Int)} (k : Nat) (hk : k < Ls.length) : (Ls.take (k + 1)).flatten = (Ls.take k).flatten ++ Ls[k]?.getD [] := by
  rw [List.take_succ_eq_append_getElem hk, List.flatten_append]
  simp [hk]
theorem flat_take_le {Ls : List (List Int)} (k : Nat) : (Ls.take k).flatten.length ≤ Ls.flatten.length := by
  conv => rhs; rw [← List.take_append_drop k Ls, List.flatten_append, List.length_append]
  omega
end Go.Proofs.Ytnfobglaeaalfaa
