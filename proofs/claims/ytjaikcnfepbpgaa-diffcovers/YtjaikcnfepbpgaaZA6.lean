/-
  What the document's own answers Check, Leaves, Less, Step, special, next and depth of layer 8 come to. Conditions: the numbers fit their kinds.
-/
import Derived.Test.YtjaikcnfepbpgaaZA2
import Derived.Test.YtjaikcnfepbpgaaZR1
namespace Go.Proofs.Ytjaikcnfepbpgaa
open Go.RowKit
set_option maxRecDepth 100000 in
set_option maxHeartbeats 400000 in
theorem rless8_any (I J K L : Int) (w : World) (_h0 : 0 ≤ I ∧ I ≤ 18446744073709551615) (_h1 : 0 ≤ J ∧ J ≤ 18446744073709551615) (h2 : 0 ≤ K ∧ K ≤ 18446744073709551615) (_h3 : 0 ≤ L ∧ L ≤ 18446744073709551615) :
    Calls Try.prog 58 #[.agg #[.int .u64 I, .int .u64 J], .agg #[.int .u64 K, .int .u64 L]] w fun e w' => e = .returned (.bool (M.lssB I J K L)) ∧ Below w.heap.size w w' := by
  have hA : Below w.heap.size w ((w.alloc (.cells #[.int .u64 I, .int .u64 J] 36)).alloc (.cells #[.int .u64 K, .int .u64 L] 36)) := below_one ((Below.refl _ w).alloc (Nat.le_refl _) _)
  obtain ⟨r, hr⟩ : ∃ r, M.lssB I J K L = r := ⟨_, rfl⟩
  rw [hr]
  unfold M.lssB at hr
  by_cases c1 : I < K
  · rw [decide_eq_true c1] at hr
    obtain rfl : r = true := by rw [← hr]; rfl
    clear hr
    go_enter Try.func58, Try.ntmps58
    go_wp2
    all_goals go_ret
    all_goals exact ⟨rfl, hA⟩
  · rw [decide_eq_false c1] at hr
    by_cases c2 : I = K
    · subst c2
      rw [decide_eq_true rfl, Bool.false_or, Bool.true_and] at hr
      by_cases c3 : J < L
      · obtain rfl : r = true := by rw [← hr]; simpa using c3
        clear hr
        go_enter Try.func58, Try.ntmps58
        go_wp2
        all_goals go_ret
        all_goals exact ⟨rfl, hA⟩
      · obtain rfl : r = false := by rw [← hr]; simpa using c3
        clear hr
        go_enter Try.func58, Try.ntmps58
        go_wp2
        all_goals go_ret
        all_goals exact ⟨rfl, hA⟩
    · rw [decide_eq_false c2] at hr
      obtain rfl : r = false := by rw [← hr]; rfl
      clear hr
      go_enter Try.func58, Try.ntmps58
      go_wp2
      all_goals go_ret
      all_goals exact ⟨rfl, hA⟩
def M.spc (h d : Int) : Bool := decide (d % M.stp h = 0) || decide (d = h)
/-- the least special depth above d -/
def M.nx2 (h d : Int) : Int := if M.nxt h d < h then M.nxt h d else h
theorem M.nx2_facts {h d : Int} (h1 : 1 ≤ h) (h2 : h ≤ 32) (hd : 0 ≤ d) (hd2 : d < h) : d < M.nx2 h d ∧ M.nx2 h d ≤ h ∧ M.spc h (M.nx2 h d) = true ∧ (∀ e, d < e → e < M.nx2 h d → M.spc h e = false) ∧ (∀ j, j ≤ h → (j ≤ M.nx2 h d ↔ ¬ M.nxt h d < j)) ∧ (∀ j, j ≤ h → M.nxt h d < j → M.nx2 h d = M.nxt h d) ∧ M.spc h d = decide (d % M.stp h = 0) := by
  obtain ⟨n1, n2, n3, n4⟩ := M.nxt_facts h1 h2 hd (by omega)
  unfold M.nx2 M.spc
  split
  · refine ⟨n1, by omega, by rw [decide_eq_true n3]; rfl, fun e e1 e2 => ?_, fun j j1 => by omega, fun j j1 j2 => rfl, ?_⟩
    · rw [decide_eq_false (n4 e e1 e2), decide_eq_false (by omega)]; rfl
    · rw [decide_eq_false (show ¬ d = h by omega), Bool.or_false]
  · refine ⟨hd2, by omega, by rw [decide_eq_true (show h = h from rfl), Bool.or_true], fun e e1 e2 => ?_, fun j j1 => by omega, fun j j1 j2 => by omega, ?_⟩
    · rw [decide_eq_false (n4 e e1 (by omega)), decide_eq_false (by omega)]; rfl
    · rw [decide_eq_false (show ¬ d = h by omega), Bool.or_false]
end Go.Proofs.Ytjaikcnfepbpgaa
