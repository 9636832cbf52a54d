/-
  The law SubLess returns true at every input. Conditions: the numbers fit their kinds.
-/
import Derived.Test.YtnfobglaeaalfaaL8Lessw1
import Derived.Test.YtnfobglaeaalfaaL8Lessw2
import Derived.Test.YtnfobglaeaalfaaL8Lessw3
import Derived.Test.YtnfobglaeaalfaaL8Lessw4
namespace Go.Proofs.Ytnfobglaeaalfaa
open Go.RowKit
theorem subLess_walk (h : Int) (a b c : Int × Int) (w : World) (_h0 : -9223372036854775808 ≤ h) (_h1 : h ≤ 9223372036854775807) (ha : M.fitS a) (hb : M.fitS b) (hc : M.fitS c) :
    Calls Try.prog 8 #[.int .i64 h, .agg #[.int .u64 a.1, .int .u64 a.2], .agg #[.int .u64 b.1, .int .u64 b.2], .agg #[.int .u64 c.1, .int .u64 c.2]] w fun e w' => e = .returned (.bool true) ∧ Below w.heap.size w w' := by
  obtain ⟨I, J⟩ := a
  obtain ⟨hI, hJ⟩ := ha
  obtain ⟨K, L⟩ := b
  obtain ⟨hK, hL⟩ := hb
  obtain ⟨M', N⟩ := c
  obtain ⟨hM, hN⟩ := hc
  dsimp only at hI hJ hK hL hM hN ⊢
  have no : ∀ {I J K L : Int}, ¬ (I < K ∨ (I = K ∧ J < L)) → M.lssB I J K L = false := fun hx => by rw [Bool.eq_false_iff]; intro e; exact hx (M.lss_iff.1 e)
  have ne : ∀ {I J K L : Int}, ¬ (I = K ∧ J = L) → decide (((I, J) : Int × Int) = (K, L)) = false := fun hx => by rw [decide_eq_false_iff_not, Prod.mk.injEq]; exact hx
  by_cases c1 : I < K ∨ (I = K ∧ J < L)
  · by_cases c2 : K < M' ∨ (K = M' ∧ L < N)
    · cases hs : M.subB h I J
      · exact subLess_w1n h I J K L M' N w hI hJ hK hL hM hN (M.lss_iff.2 c1) (no (by omega)) (M.lss_iff.2 c2) (M.lss_iff.2 (by omega)) (ne (by omega)) hs
      · exact subLess_w1y h I J K L M' N w hI hJ hK hL hM hN (M.lss_iff.2 c1) (no (by omega)) (M.lss_iff.2 c2) (M.lss_iff.2 (by omega)) (ne (by omega)) hs
    · cases hs : M.subB h I J
      · exact subLess_w2n h I J K L M' N w hI hJ hK hL hM hN (M.lss_iff.2 c1) (no (by omega)) (no c2) (ne (by omega)) hs
      · exact subLess_w2y h I J K L M' N w hI hJ hK hL hM hN (M.lss_iff.2 c1) (no (by omega)) (no c2) (ne (by omega)) hs
  · by_cases c2 : I = K ∧ J = L
    · cases hs : M.subB h I J
      · exact subLess_w4n h I J K L M' N w hI hJ hK hL hM hN (no c1) (by rw [decide_eq_true_eq, Prod.mk.injEq]; exact c2) hs
      · exact subLess_w4y h I J K L M' N w hI hJ hK hL hM hN (no c1) (by rw [decide_eq_true_eq, Prod.mk.injEq]; exact c2) hs
    · cases hs : M.subB h I J
      · exact subLess_w3n h I J K L M' N w hI hJ hK hL hM hN (no c1) (M.lss_iff.2 (by omega)) (ne c2) hs
      · exact subLess_w3y h I J K L M' N w hI hJ hK hL hM hN (no c1) (M.lss_iff.2 (by omega)) (ne c2) hs
end Go.Proofs.Ytnfobglaeaalfaa
