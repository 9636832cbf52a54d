/-
  What the document's Order answers of subsets whose I's rise: the same ones. Conditions: the slice holds them, they fit their kind.
-/
import Derived.Test.YthmiekinjfaflaaZI2
namespace Go.Proofs.Ythmiekinjfaflaa
open Go.RowKit
theorem sl_zero {P : Program} {α : Type} {E : Elt P α} {W : World} {ao : Option Addr} {c : Nat} (hc : c ≤ maxLen) (h : 0 < c → ∃ b off, ao = some ⟨b, off, none⟩ ∧ b < W.heap.size) : Sl E W (.slice ao 0 c) [] :=
  ⟨ao, c, rfl, by simp, hc, by simp, fun h0 => by obtain ⟨b, off, e, hb⟩ := h h0; exact ⟨b, off, e, hb, fun j hj => by simp at hj⟩⟩
theorem lss_no {I J K L : Int} (h : K < I) : M.lssB I J K L = false := by
  unfold M.lssB
  rw [decide_eq_false (by omega), decide_eq_false (by omega)]; rfl
set_option maxRecDepth 100000 in
theorem own_form2 {W : World} {base : Nat} {v : Value} {n : Nat} {L : List (Int × Int)} (h : W.ownsRow base 35 2 v n (elSub.cells L)) (hb : ∀ x ∈ L, 0 ≤ x.1 ∧ x.1 ≤ 18446744073709551615 ∧ 0 ≤ x.2 ∧ x.2 ≤ 18446744073709551615) : Ss W v L := Sl.of_own (E := elSub) h hb
set_option maxRecDepth 100000 in
theorem row_more {W : World} {base k : Nat} {v : Value} {X : List (Int × Int)} {s : Int × Int} (h : W.ownsRow base 35 2 v (0 + (X.take k).length + [s].length + ([] : List (Int × Int)).length) (elSub.cells (([] ++ X.take k ++ [s]) ++ []))) (hT : X.take (k + 1) = X.take k ++ [s]) (hk : (X.take k).length = k) :
    W.ownsRow base 35 2 v (k + 1) (elSub.cells (X.take (k + 1))) := by
  rw [List.nil_append, List.append_nil, ← hT, hk, show 0 + k + [s].length + ([] : List (Int × Int)).length = k + 1 by simp] at h
  exact h
end Go.Proofs.Ythmiekinjfaflaa
