/-
  Plain mathematics: how many useful subsets are beside the way to a leaf. No condition.
-/
import Derived.Test.YthmiekinjfaflaaZM3
import Derived.Test.YthmiekinjfaflaaZNZ
namespace Go.Proofs.Ythmiekinjfaflaa
namespace M
/-- of a top of depth i those that are useful, of the first m depths below it -/
def c1 (h : Int) (i : Nat) : Nat → Nat
  | 0 => 0
  | m + 1 => c1 h i m + (if useV h (p2 i) (p2 ((i + 1 + m : Nat) : Int) + 1) = true then 1 else 0)
def cA (h : Int) (n : Nat) : Nat → Nat
  | 0 => 0
  | i + 1 => cA h n i + c1 h i (n - i)
def prV (h : Int) : Int := if htB h then (cA h h.toNat (h.toNat + 1) : Nat) else 0
def prE (h : Int) : Int := if htB h then 0 else 1
theorem c1_le (h : Int) (i : Nat) : ∀ m, c1 h i m ≤ m
  | 0 => Nat.le_refl _
  | m + 1 => by
    have := c1_le h i m
    unfold c1
    split <;> omega
theorem cA_le (h : Int) (n : Nat) : ∀ i, cA h n i ≤ i * n
  | 0 => by simp [cA]
  | i + 1 => by
    have := cA_le h n i
    have := c1_le h i (n - i)
    unfold cA
    rw [Nat.succ_mul]; omega
def prOk (h : Nat) : Bool := decide ((h : Int) ≤ prV h) && decide (prV h ≤ (h : Int) * (h + 1) / 2) && (decide (1 < stp h) || decide (prV h = (h : Int) * (h + 1) / 2))
theorem prOk_all : ∀ h : Fin 32, prOk (h.val + 1) = true := by decide +kernel
theorem pr_facts {h : Int} (h1 : 1 ≤ h) (h2 : h ≤ 32) : h ≤ prV h ∧ prV h ≤ h * (h + 1) / 2 ∧ (1 < stp h ∨ prV h = h * (h + 1) / 2) := by
  have := prOk_all ⟨(h - 1).toNat, by omega⟩
  unfold prOk at this
  rw [show (((h - 1).toNat + 1 : Nat) : Int) = h by omega] at this
  simp only [Bool.and_eq_true, Bool.or_eq_true, decide_eq_true_eq] at this
  exact ⟨this.1.1, this.1.2, this.2⟩
theorem up_p2 {h : Int} {k : Nat} (hk : (k : Int) ≤ h) : up (p2 h) k = p2 k := by
  have hh : 0 ≤ h := by omega
  have hd : dep (p2 h) = h := (dep_iff (p2 h) h (by have := p2_pos h; omega) hh).2 ⟨Int.le_refl _, by have := p2_pos h; omega⟩
  unfold up
  rw [hd]
  have : p2 h = p2 k * p2 (h - k) := by rw [← p2_add (by omega) (by omega)]; congr 1; omega
  rw [this]
  exact Int.mul_ediv_cancel _ (by have := p2_pos (h - k); omega)
end M
end Go.Proofs.Ythmiekinjfaflaa
