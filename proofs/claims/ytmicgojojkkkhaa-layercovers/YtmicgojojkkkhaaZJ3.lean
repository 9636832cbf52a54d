/-
  What the document's Order answers of subsets whose I's rise: the same ones. Conditions: the slice holds them, they fit their kind.
-/
import Derived.Test.YtmicgojojkkkhaaZI2
import Derived.Test.YtmicgojojkkkhaaZJ0
import Derived.Test.YtmicgojojkkkhaaZO10
namespace Go.Proofs.Ytmicgojojkkkhaa
open Go.RowKit
theorem sl_zero {P : Program} {α : Type} {E : Elt P α} {W : World} {ao : Option Addr} {c : Nat} (hc : c ≤ maxLen) (h : 0 < c → ∃ b off, ao = some ⟨b, off, none⟩ ∧ b < W.heap.size) : Sl E W (.slice ao 0 c) [] :=
  ⟨ao, c, rfl, by simp, hc, by simp, fun h0 => by obtain ⟨b, off, e, hb⟩ := h h0; exact ⟨b, off, e, hb, fun j hj => by simp at hj⟩⟩
theorem lss_no {I J K L : Int} (h : K < I) : M.lssB I J K L = false := by
  unfold M.lssB
  rw [decide_eq_false (by omega), decide_eq_false (by omega)]; rfl
set_option maxRecDepth 100000 in
theorem own_form2 {W : World} {base : Nat} {v : Value} {n : Nat} {L : List (Int × Int)} (h : W.ownsRow base 27 2 v n (elSub.cells L)) (hb : ∀ x ∈ L, 0 ≤ x.1 ∧ x.1 ≤ 18446744073709551615 ∧ 0 ≤ x.2 ∧ x.2 ≤ 18446744073709551615) : Ss W v L := Sl.of_own (E := elSub) h hb
set_option maxRecDepth 100000 in
theorem row_more {W : World} {base k : Nat} {v : Value} {X : List (Int × Int)} {s : Int × Int} (h : W.ownsRow base 27 2 v (0 + (X.take k).length + [s].length + ([] : List (Int × Int)).length) (elSub.cells (([] ++ X.take k ++ [s]) ++ []))) (hT : X.take (k + 1) = X.take k ++ [s]) (hk : (X.take k).length = k) :
    W.ownsRow base 27 2 v (k + 1) (elSub.cells (X.take (k + 1))) := by
  rw [List.nil_append, List.append_nil, ← hT, hk, show 0 + k + [s].length + ([] : List (Int × Int)).length = k + 1 by simp] at h
  exact h
end Go.Proofs.Ytmicgojojkkkhaa
namespace Go.Proofs.Ytmicgojojkkkhaa
open Go.RowKit
namespace M
theorem dfX_take {h : Int} {L T : List Int} (k : Nat) (hk : k < T.length) : (T.take (k + 1)).filter (fun n => decide (dnV h L n ≠ n)) = (T.take k).filter (fun n => decide (dnV h L n ≠ n)) ++ (if dnV h L (T[k]?.getD 0) ≠ T[k]?.getD 0 then [T[k]?.getD 0] else []) := by
  rw [take_getD k hk, List.filter_append]
  congr 1
  by_cases hx : dnV h L (T[k]?.getD 0) ≠ T[k]?.getD 0
  · rw [if_pos hx]; simp [hx]
  · rw [if_neg hx]; simp [hx]
theorem tops_take (F : List Int) (k : Nat) (hk : k < F.length) : 1 :: (F.take (k + 1)).flatMap kids2 = (1 :: (F.take k).flatMap kids2) ++ [2 * (F[k]?.getD 0), 2 * (F[k]?.getD 0) + 1] := by
  rw [take_getD k hk, List.flatMap_append]; simp [kids2]
end M
theorem us_twoq (w : World) (x y : Int) (e : TypeId) (B : Nat) (hB : w.heap.size = B) (hx : 0 ≤ x ∧ x ≤ 18446744073709551615) (hy : 0 ≤ y ∧ y ≤ 18446744073709551615) : Us (w.alloc (.cells #[.int .u64 x, .int .u64 y] e)) (.slice (some ⟨B, 0, none⟩) 2 2) [x, y] := by subst hB; exact us_two w x y e hx hy
theorem us_ptr {W : World} {ao : Option Addr} {n cap : Nat} {L : List Int} (h : Us W (.slice ao n cap) L) (h0 : 0 < n) : ∃ b off, ao = some ⟨b, off, none⟩ := by
  obtain ⟨a, c, e, -, hv⟩ := us_view h
  cases e
  obtain ⟨b, off, e, -⟩ := hv h0
  exact ⟨b, off, e⟩
theorem qu_below {W W0 W' : World} {base : Nat} {v : Value} {L : List Int} {e : TypeId} (hb : Below base W0 W) (g : W.grownBy W' (qblk v)) (q : Qu W base e v L) (hB : base ≤ W.heap.size) : Below base W0 W' := hb.grown g hB fun k hk => (q.lt k hk).1
end Go.Proofs.Ytmicgojojkkkhaa
