/-
  Plain mathematics of octets: a number's octets, and the number of octets; a block's. No condition.
-/
import Derived.Test.YtfedmkklpambgaaNM
namespace Go.Proofs.Ytfedmkklpambgaa
namespace M
/-- the j-th octet of a block -/
def oc (b : Blk) (j : Nat) : Int := nu (if j < 8 then b.1 else b.2) / 2 ^ (8 * (j % 8)) % 256
/-- the first k of them, zeros behind -/
def ocN (b : Blk) (k : Nat) (j : Nat) : Int := if j < k then oc b j else 0
theorem oc_0 (b : Blk) (j : Nat) : 0 ≤ oc b j := Int.emod_nonneg _ (by decide)
theorem oc_1 (b : Blk) (j : Nat) : oc b j ≤ 255 := by have := Int.emod_lt_of_pos (nu (if j < 8 then b.1 else b.2) / 2 ^ (8 * (j % 8))) (show (0:Int) < 256 by decide); unfold oc; omega
/-- the number of eight octets from o on, the lowest one first -/
def num (f : Nat → Int) (o : Nat) : Int := f o + 256 * f (o + 1) + 65536 * f (o + 2) + 16777216 * f (o + 3) + 4294967296 * f (o + 4) + 1099511627776 * f (o + 5) + 281474976710656 * f (o + 6) + 72057594037927936 * f (o + 7)
/-- the block of sixteen octets -/
def ofOct (f : Nat → Int) : Blk := (BitVec.ofInt 64 (num f 0), BitVec.ofInt 64 (num f 8))
/-- octets -/
def Oct (f : Nat → Int) : Prop := ∀ j, j < 16 → 0 ≤ f j ∧ f j ≤ 255
def numK (f : Nat → Int) (o : Nat) : Nat → Int
  | 0 => 0
  | k + 1 => numK f o k + f (o + k) * 2 ^ (8 * k)
theorem numK_8 (f : Nat → Int) (o : Nat) : numK f o 8 = num f o := by
  unfold num
  simp only [numK, Nat.add_zero]
  omega
theorem numK_bd {f : Nat → Int} {o : Nat} (hf : ∀ j, j < 8 → 0 ≤ f (o + j) ∧ f (o + j) ≤ 255) : ∀ k, k ≤ 8 → 0 ≤ numK f o k ∧ numK f o k < 2 ^ (8 * k)
  | 0, _ => by simp [numK]
  | k + 1, h => by
    obtain ⟨h1, h2⟩ := numK_bd hf k (by omega)
    obtain ⟨h3, h4⟩ := hf k (by omega)
    have h5 : (2 : Int) ^ (8 * (k + 1)) = 2 ^ (8 * k) * 256 := by rw [Nat.mul_add, Int.pow_add]; rfl
    have h6 : (0 : Int) < 2 ^ (8 * k) := Int.pow_pos (by decide)
    have h7 : f (o + k) * 2 ^ (8 * k) ≤ 255 * 2 ^ (8 * k) := Int.mul_le_mul_of_nonneg_right h4 (by omega)
    have h8 : 0 ≤ f (o + k) * 2 ^ (8 * k) := Int.mul_nonneg h3 (by omega)
    unfold numK
    rw [h5]
    omega
theorem num_bd {f : Nat → Int} {o : Nat} (hf : ∀ j, j < 8 → 0 ≤ f (o + j) ∧ f (o + j) ≤ 255) : 0 ≤ num f o ∧ num f o ≤ 18446744073709551615 := by
  have := numK_bd hf 8 (by omega)
  rw [numK_8] at this
  have h : (2 : Int) ^ (8 * 8) = 18446744073709551616 := by decide
  omega
/-- one more octet, by 'or' -/
theorem num_or {f : Nat → Int} {o : Nat} (hf : ∀ j, j < 8 → 0 ≤ f (o + j) ∧ f (o + j) ≤ 255) (k : Nat) (hk : k < 8) :
    bits .or .u64 (numK f o k) (IntKind.u64.wrap (f (o + k) * 2 ^ (8 * k))) = numK f o (k + 1) := by
  obtain ⟨h1, h2⟩ := numK_bd hf k (by omega)
  obtain ⟨h3, h4⟩ := numK_bd hf (k + 1) (by omega)
  obtain ⟨h5, h6⟩ := hf k hk
  have h7 : (2 : Int) ^ (8 * (k + 1)) ≤ 2 ^ 64 := by
    have : (2 : Nat) ^ (8 * (k + 1)) ≤ 2 ^ 64 := Nat.pow_le_pow_right (by decide) (by omega)
    exact_mod_cast this
  have h8 : (2 : Int) ^ (8 * k) ≤ 2 ^ (8 * (k + 1)) := by
    have : (2 : Nat) ^ (8 * k) ≤ 2 ^ (8 * (k + 1)) := Nat.pow_le_pow_right (by decide) (by omega)
    exact_mod_cast this
  have h9 : (0 : Int) < 2 ^ (8 * k) := Int.pow_pos (by decide)
  have h10 : 0 ≤ f (o + k) * 2 ^ (8 * k) := Int.mul_nonneg h5 (by omega)
  have h11 : (2 : Int) ^ 64 = 18446744073709551616 := by decide
  have h12 : numK f o (k + 1) = numK f o k + f (o + k) * 2 ^ (8 * k) := rfl
  rw [IntKind.wrap_u64, Int.emod_eq_of_lt h10 (by omega), h12]
  have eP : (2 : Int) ^ (8 * k) = ((2 ^ (8 * k) : Nat) : Int) := by rw [Int.natCast_pow]; rfl
  rw [h12] at h3 h4
  rw [eP] at h2 h8 h9 h10 h3 h4 ⊢
  generalize hP : 2 ^ (8 * k) = P at *
  generalize f (o + k) = y at *
  generalize numK f o k = x at *
  clear h12
  obtain ⟨a, rfl⟩ := Int.eq_ofNat_of_zero_le h5
  obtain ⟨c, rfl⟩ := Int.eq_ofNat_of_zero_le h1
  have hcl : c < 2 ^ (8 * k) := by rw [hP]; omega
  have e1 : (a : Int) * (P : Int) = ((P * a : Nat) : Int) := by rw [Int.natCast_mul, Int.mul_comm]
  rw [e1] at h3 h4 h10 ⊢
  rw [u64_or_nat _ _ (by omega) (by omega), Nat.or_comm]
  have e2 := Nat.two_pow_add_eq_or_of_lt hcl a
  rw [hP] at e2
  rw [← e2]
  omega
def hiK (f : Nat → Int) : Nat → Int
  | 0 => 0
  | r + 1 => 256 * hiK f r + f (7 - r)
theorem hiK_8 (f : Nat → Int) : hiK f 8 = num f 0 := by
  unfold num
  simp only [hiK, Nat.zero_add, Nat.reduceSub]
  omega
theorem hiK_bd {f : Nat → Int} (hf : ∀ j, j < 8 → 0 ≤ f j ∧ f j ≤ 255) : ∀ r, r ≤ 7 → 0 ≤ hiK f r ∧ hiK f r ≤ 72057594037927935
  | r, h => by
    have h0 := hf 0 (by omega); have h1 := hf 1 (by omega); have h2 := hf 2 (by omega); have h3 := hf 3 (by omega)
    have h4 := hf 4 (by omega); have h5 := hf 5 (by omega); have h6 := hf 6 (by omega); have h7 := hf 7 (by omega)
    have : r = 0 ∨ r = 1 ∨ r = 2 ∨ r = 3 ∨ r = 4 ∨ r = 5 ∨ r = 6 ∨ r = 7 := by omega
    rcases this with rfl | rfl | rfl | rfl | rfl | rfl | rfl | rfl <;> simp only [hiK, Nat.reduceSub] <;> omega
end M
end Go.Proofs.Ytfedmkklpambgaa
