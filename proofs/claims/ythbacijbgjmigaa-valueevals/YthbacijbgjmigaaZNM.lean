/-
  Plain mathematics of blocks: rounds, and their way back; octets and numbers. No condition.
-/
import Derived.Laws.BitsAllLaws
namespace Go.Proofs.Ythbacijbgjmigaa
namespace M
abbrev W64 := BitVec 64
/-- a block: two numbers of 64 bits -/
abbrev Blk := BitVec 64 × BitVec 64
def rotl (x : BitVec 64) (k : Nat) : BitVec 64 := (x <<< k) ||| (x >>> (64 - k))
theorem rotl_rotl (x : BitVec 64) (k : Nat) (h0 : 0 < k) (h1 : k < 64) : rotl (rotl x k) (64 - k) = x := by
  apply BitVec.eq_of_getLsbD_eq
  intro i hi
  have e : 64 - (64 - k) = k := by omega
  simp only [rotl, e, BitVec.getLsbD_or, BitVec.getLsbD_shiftLeft, BitVec.getLsbD_ushiftRight]
  by_cases c : i < 64 - k
  · have c1 : k + i < 64 := by omega
    have c2 : ¬ (k + i < k) := by omega
    have c3 : k + i - k = i := by omega
    have c4 : 64 ≤ 64 - k + (k + i) := by omega
    have c5 : x.getLsbD (64 - k + (k + i)) = false := BitVec.getLsbD_of_ge x _ c4
    simp [c, c1, c2, c3, c5, hi]
  · have c1 : i - (64 - k) < 64 := by omega
    have c2 : i - (64 - k) < k := by omega
    have c3 : 64 - k + (i - (64 - k)) = i := by omega
    have c4 : 64 ≤ k + i := by omega
    have c5 : x.getLsbD (64 - k + (k + i)) = false := BitVec.getLsbD_of_ge x _ (by omega)
    simp [c, c1, c2, c3, c5, hi]
def cst : BitVec 64 := 11400714819323198485#64
def rnd (b : Blk) (k : BitVec 64) : Blk :=
  (rotl (b.1 + b.2 + k * cst) 13 ^^^ rotl (b.2 ^^^ rotl (b.1 + b.2 + k * cst) 13) 29, rotl (b.2 ^^^ rotl (b.1 + b.2 + k * cst) 13) 29)
def rndBack (b : Blk) (k : BitVec 64) : Blk :=
  (rotl (b.1 ^^^ b.2) 51 - (rotl b.2 35 ^^^ (b.1 ^^^ b.2)) - k * cst, rotl b.2 35 ^^^ (b.1 ^^^ b.2))
theorem xor_cancel (a b : BitVec 64) : a ^^^ b ^^^ b = a := by rw [BitVec.xor_assoc, BitVec.xor_self, BitVec.xor_zero]
theorem add_sub3 (a b c : BitVec 64) : a + b + c - b - c = a := by
  rw [BitVec.add_assoc, BitVec.add_comm b c, ← BitVec.add_assoc, BitVec.add_sub_cancel, BitVec.add_sub_cancel]
theorem sub_add3 (a b c : BitVec 64) : a - b - c + b + c = a := by
  rw [BitVec.add_assoc, BitVec.add_comm b c, ← BitVec.add_assoc, BitVec.sub_add_cancel, BitVec.sub_add_cancel]
theorem back_rnd (b : Blk) (k : BitVec 64) : rndBack (rnd b k) k = b := by
  obtain ⟨x, y⟩ := b
  unfold rndBack rnd
  dsimp only
  generalize hX : rotl (x + y + k * cst) 13 = X
  generalize hY : rotl (y ^^^ X) 29 = Y
  have h1 : rotl Y 35 = y ^^^ X := by rw [← hY]; exact rotl_rotl _ 29 (by decide) (by decide)
  have h2 : rotl X 51 = x + y + k * cst := by rw [← hX]; exact rotl_rotl _ 13 (by decide) (by decide)
  rw [xor_cancel, h1, h2, xor_cancel, add_sub3]
theorem rnd_back (b : Blk) (k : BitVec 64) : rnd (rndBack b k) k = b := by
  obtain ⟨x, y⟩ := b
  unfold rndBack rnd
  dsimp only
  generalize hX : x ^^^ y = X
  rw [sub_add3]
  have h2 : rotl (rotl X 51) 13 = X := rotl_rotl X 51 (by decide) (by decide)
  rw [h2, xor_cancel]
  have h1 : rotl (rotl y 35) 29 = y := rotl_rotl y 35 (by decide) (by decide)
  rw [h1, ← hX, xor_cancel]
def mixN (b : Blk) : Nat → Blk
  | 0 => b
  | n + 1 => rnd (mixN b n) (BitVec.ofNat 64 n)
def backN (b : Blk) : Nat → Blk
  | 0 => b
  | n + 1 => rndBack (backN b n) (BitVec.ofNat 64 (7 - n))
def mix (b : Blk) : Blk := mixN b 8
def unmix (b : Blk) : Blk := backN b 8
theorem back_mix (b : Blk) : ∀ n, n ≤ 8 → backN (mix b) n = mixN b (8 - n)
  | 0, _ => rfl
  | n + 1, h => by
    rw [backN, back_mix b n (by omega), show 8 - n = (8 - (n + 1)) + 1 by omega, mixN, show 8 - (n + 1) = 7 - n by omega, back_rnd]
theorem mix_back (b : Blk) : ∀ n, n ≤ 8 → mixN (unmix b) n = backN b (8 - n)
  | 0, _ => rfl
  | n + 1, h => by
    have e : 8 - n = (7 - n) + 1 := by omega
    have e2 : 7 - (7 - n) = n := by omega
    rw [mixN, mix_back b n (by omega), e, backN, e2, rnd_back, show 8 - (n + 1) = 7 - n by omega]
theorem unmix_mix (b : Blk) : unmix (mix b) = b := back_mix b 8 (by decide)
theorem mix_unmix (b : Blk) : mix (unmix b) = b := mix_back b 8 (by decide)
theorem mix_inj {a b : Blk} : mix a = mix b ↔ a = b := ⟨fun h => by rw [← unmix_mix a, h, unmix_mix], fun h => by rw [h]⟩
def xor (a b : Blk) : Blk := (a.1 ^^^ b.1, a.2 ^^^ b.2)
theorem xor_xor (a b : Blk) : xor (xor a b) b = a := by unfold xor; dsimp only; rw [xor_cancel, xor_cancel]
theorem xor_comm (a b : Blk) : xor a b = xor b a := by unfold xor; rw [BitVec.xor_comm a.1, BitVec.xor_comm a.2]
theorem xor_self (a : Blk) : xor a a = (0#64, 0#64) := by unfold xor; rw [BitVec.xor_self, BitVec.xor_self]
theorem xor_zero (a : Blk) : xor a (0#64, 0#64) = a := by unfold xor; dsimp only; rw [BitVec.xor_zero, BitVec.xor_zero]
theorem xor_assoc (a b c : Blk) : xor (xor a b) c = xor a (xor b c) := by unfold xor; dsimp only; rw [BitVec.xor_assoc, BitVec.xor_assoc]
theorem xor_inj {a b c : Blk} : xor a c = xor b c ↔ a = b := ⟨fun h => by rw [← xor_xor a c, h, xor_xor], fun h => by rw [h]⟩
theorem xor_injL {a b c : Blk} : xor c a = xor c b ↔ a = b := by rw [xor_comm c, xor_comm c]; exact xor_inj
/-- a number as the program holds it -/
def nu (x : BitVec 64) : Int := (x.toNat : Int)
theorem nu_0 (x : BitVec 64) : 0 ≤ nu x := by unfold nu; omega
theorem nu_1 (x : BitVec 64) : nu x ≤ 18446744073709551615 := by unfold nu; have := x.isLt; omega
theorem nu_inj {x y : BitVec 64} : nu x = nu y ↔ x = y := by
  unfold nu
  constructor
  · intro h; exact BitVec.eq_of_toNat_eq (by omega)
  · intro h; rw [h]
theorem nu_of (n : Int) (h0 : 0 ≤ n) (h1 : n ≤ 18446744073709551615) : nu (BitVec.ofInt 64 n) = n := by
  unfold nu; rw [BitVec.toNat_ofInt]; omega
theorem nu_nat (n : Nat) (h : n < 18446744073709551616) : nu (BitVec.ofNat 64 n) = n := by
  unfold nu; rw [BitVec.toNat_ofNat, Nat.mod_eq_of_lt (by omega)]
theorem nu_xor (x y : BitVec 64) : bits .xor .u64 (nu x) (nu y) = nu (x ^^^ y) := by
  unfold nu; rw [u64_xor_nat _ _ x.isLt y.isLt, BitVec.toNat_xor]
theorem nu_or (x y : BitVec 64) : bits .or .u64 (nu x) (nu y) = nu (x ||| y) := by
  unfold nu; rw [u64_or_nat _ _ x.isLt y.isLt, BitVec.toNat_or]
theorem nu_add (x y : BitVec 64) : IntKind.u64.wrap (nu x + nu y) = nu (x + y) := by
  unfold nu; rw [IntKind.wrap_u64, BitVec.toNat_add]; omega
theorem nu_sub (x y : BitVec 64) : IntKind.u64.wrap (nu x - nu y) = nu (x - y) := by
  unfold nu; rw [IntKind.wrap_u64, BitVec.toNat_sub]; have := x.isLt; have := y.isLt; omega
theorem nu_mulc (k : BitVec 64) : IntKind.u64.wrap (nu k * 11400714819323198485) = nu (k * cst) := by
  unfold nu cst; rw [IntKind.wrap_u64, BitVec.toNat_mul, show (11400714819323198485#64).toNat = 11400714819323198485 from rfl]; omega
theorem nu_shl (x : BitVec 64) (k : Nat) (m : Int) (hm : m = ((2 ^ k : Nat) : Int)) : IntKind.u64.wrap (nu x * m) = nu (x <<< k) := by
  subst hm
  unfold nu; rw [IntKind.wrap_u64, BitVec.toNat_shiftLeft, Nat.shiftLeft_eq, Int.natCast_emod, Int.natCast_mul]; rfl
theorem nu_shr (x : BitVec 64) (k : Nat) (m : Int) (hm : m = ((2 ^ k : Nat) : Int)) : nu x / m = nu (x >>> k) := by
  subst hm
  unfold nu; rw [BitVec.toNat_ushiftRight, Nat.shiftRight_eq_div_pow, Int.natCast_ediv]
theorem nu_rot (x : BitVec 64) (k : Nat) (m n : Int) (hm : m = ((2 ^ k : Nat) : Int)) (hn : n = ((2 ^ (64 - k) : Nat) : Int)) : bits .or .u64 (IntKind.u64.wrap (nu x * m)) (nu x / n) = nu (rotl x k) := by
  rw [nu_shl x k m hm, nu_shr x _ n hn, nu_or]; rfl
end M
end Go.Proofs.Ythbacijbgjmigaa
