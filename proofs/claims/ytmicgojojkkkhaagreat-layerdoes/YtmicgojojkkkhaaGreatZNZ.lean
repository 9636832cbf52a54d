/-
  Plain mathematics: schemes, and which subsets may be of one. No condition.
-/
import Derived.Test.YtmicgojojkkkhaaGreatZLM
namespace Go.Proofs.YtmicgojojkkkhaaGreat
namespace M
def kB (k : Int) : Bool := decide (1 ≤ k) && decide (k ≤ 3)
def myE (h k I J : Int) : Int := if kB k && subB h I J then 0 else 1
def myV (h k I J : Int) : Bool := kB k && subB h I J && (if k = 1 then decide (J = 0) else if k = 2 then !decide (J = 0) || decide (I = 1) else useB h I J)
theorem kB_of {k : Int} (hk : kB k = true) : k = 1 ∨ k = 2 ∨ k = 3 := by
  unfold kB at hk
  simp only [Bool.and_eq_true, decide_eq_true_eq] at hk
  omega
end M
end Go.Proofs.YtmicgojojkkkhaaGreat
