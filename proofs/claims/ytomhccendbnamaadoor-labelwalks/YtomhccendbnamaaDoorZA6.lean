/-
  What the document's own answers Check, Leaves, Less, Step, special, next and depth of layer 8 come to. Conditions: the numbers fit their kinds.
-/
import Derived.Test.YtomhccendbnamaaDoorZA1
import Derived.Test.YtomhccendbnamaaDoorZR1
namespace Go.Proofs.YtomhccendbnamaaDoor
open Go.RowKit
def M.spc (h d : Int) : Bool := decide (d % M.stp h = 0) || decide (d = h)
/-- the least special depth above d -/
def M.nx2 (h d : Int) : Int := if M.nxt h d < h then M.nxt h d else h
theorem M.nx2_facts {h d : Int} (h1 : 1 ≤ h) (h2 : h ≤ 32) (hd : 0 ≤ d) (hd2 : d < h) : d < M.nx2 h d ∧ M.nx2 h d ≤ h ∧ M.spc h (M.nx2 h d) = true ∧ (∀ e, d < e → e < M.nx2 h d → M.spc h e = false) ∧ (∀ j, j ≤ h → (j ≤ M.nx2 h d ↔ ¬ M.nxt h d < j)) ∧ (∀ j, j ≤ h → M.nxt h d < j → M.nx2 h d = M.nxt h d) ∧ M.spc h d = decide (d % M.stp h = 0) := by
  obtain ⟨n1, n2, n3, n4⟩ := M.nxt_facts h1 h2 hd (by omega)
  unfold M.nx2 M.spc
  split
  · refine ⟨n1, by omega, by rw [decide_eq_true n3]; rfl, fun e e1 e2 => ?_, fun j j1 => by omega, fun j j1 j2 => rfl, ?_⟩
    · rw [decide_eq_false (n4 e e1 e2), decide_eq_false (by omega)]; rfl
    · rw [decide_eq_false (show ¬ d = h by omega), Bool.or_false]
  · refine ⟨hd2, by omega, by rw [decide_eq_true (show h = h from rfl), Bool.or_true], fun e e1 e2 => ?_, fun j j1 => by omega, fun j j1 j2 => by omega, ?_⟩
    · rw [decide_eq_false (n4 e e1 (by omega)), decide_eq_false (by omega)]; rfl
    · rw [decide_eq_false (show ¬ d = h by omega), Bool.or_false]
end Go.Proofs.YtomhccendbnamaaDoor
