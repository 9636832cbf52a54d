/-
  Plain mathematics of a whole binary tree: powers of two, depths, and nodes above others, as functions on integers. It imports nothing of the program.
-/
import Derived.WalkKit
import Derived.Laws.MathBits
namespace Go.Proofs.Ytjaikcnfepbpgaa
open Go.RowKit
namespace M

/-- 2 to the power k. -/
def p2 (k : Int) : Int := 2 ^ k.toNat
/-- how deep a node is. -/
def dep (n : Int) : Int := (Nat.log2 n.toNat : Nat)
/-- the node above n of depth d. -/
def up (n d : Int) : Int := n / p2 (dep n - d)
/-- there is such a node -/
def okB (h n : Int) : Bool := decide (1 ≤ h ∧ h ≤ 32 ∧ 1 ≤ n ∧ n < 2 * p2 h)
/-- a is above b -/
def abv (a b : Int) : Bool := decide (dep a ≤ dep b) && (up b (dep a) == a)

theorem p2_nat (k : Nat) : p2 (k : Int) = ((2 ^ k : Nat) : Int) := by simp [p2]
theorem p2_pos (k : Int) : 1 ≤ p2 k := by
  have : 0 < (2:Int) ^ k.toNat := Int.pow_pos (by decide)
  unfold p2; omega
theorem p2_succ (k : Int) (h : 0 ≤ k) : p2 (k + 1) = 2 * p2 k := by
  unfold p2
  rw [show (k + 1).toNat = k.toNat + 1 by omega, Int.pow_succ]; omega
theorem p2_mono {a b : Int} (h : a ≤ b) : p2 a ≤ p2 b := by
  unfold p2
  have : (2 ^ a.toNat : Nat) ≤ 2 ^ b.toNat := Nat.pow_le_pow_right (by decide) (by omega)
  exact_mod_cast this
theorem p2_lt {a b : Int} (ha : 0 ≤ a) (h : a < b) : p2 a < p2 b := by
  have := p2_mono (show a + 1 ≤ b by omega)
  rw [p2_succ a ha] at this
  have := p2_pos a
  omega
theorem p2_add {a b : Int} (ha : 0 ≤ a) (hb : 0 ≤ b) : p2 (a + b) = p2 a * p2 b := by
  unfold p2
  rw [show (a + b).toNat = a.toNat + b.toNat by omega, Int.pow_add]
theorem p2_zero : p2 0 = 1 := by simp [p2]
theorem p2_32 {h : Int} (hh : h ≤ 32) : p2 h ≤ 4294967296 := by
  have := p2_mono hh
  have e : p2 32 = 4294967296 := by decide
  omega

theorem dep_nonneg (n : Int) : 0 ≤ dep n := by unfold dep; omega
theorem dep_le (n : Int) (hn : 1 ≤ n) : p2 (dep n) ≤ n := by
  have := Nat.log2_self_le (show n.toNat ≠ 0 by omega)
  unfold dep; rw [p2_nat]; omega
theorem dep_lt (n : Int) (hn : 1 ≤ n) : n < 2 * p2 (dep n) := by
  have := @Nat.lt_log2_self n.toNat
  unfold dep; rw [p2_nat]; rw [Nat.pow_succ] at this; omega
theorem dep_iff (n d : Int) (hn : 1 ≤ n) (hd : 0 ≤ d) : dep n = d ↔ p2 d ≤ n ∧ n < 2 * p2 d := by
  have h1 := dep_le n hn
  have h2 := dep_lt n hn
  constructor
  · intro h; subst h; exact ⟨h1, h2⟩
  · intro ⟨h3, h4⟩
    have h0 := dep_nonneg n
    rcases Int.lt_trichotomy (dep n) d with h | h | h
    · have := p2_mono (show dep n + 1 ≤ d by omega)
      rw [p2_succ _ h0] at this; omega
    · exact h
    · have := p2_mono (show d + 1 ≤ dep n by omega)
      rw [p2_succ _ hd] at this; omega
theorem dep_le_of {n h : Int} (hn : 1 ≤ n) (hh : 0 ≤ h) (hl : n < 2 * p2 h) : dep n ≤ h := by
  have h1 := dep_le n hn
  have h0 := dep_nonneg n
  by_cases hc : dep n ≤ h
  · exact hc
  · have := p2_mono (show h + 1 ≤ dep n by omega)
    rw [p2_succ _ hh] at this; omega

theorem p2_64 : p2 64 = 18446744073709551616 := by decide +kernel
theorem dep_63 {n : Int} (hn : 1 ≤ n) (h : n ≤ 18446744073709551615) : dep n ≤ 63 := by
  have h1 := dep_le n hn
  by_cases hc : dep n ≤ 63
  · exact hc
  · have := p2_mono (show 64 ≤ dep n by omega)
    rw [p2_64] at this; omega
theorem bitLen_dep (n : Int) (hn : 1 ≤ n) : ((bitLen n.toNat : Nat) : Int) - 1 = dep n := by
  unfold bitLen dep
  rw [if_neg (by omega)]; omega
theorem ok_mk {h n : Int} (h1 : 1 ≤ h) (h2 : h ≤ 32) (h3 : 1 ≤ n) (h4 : n < 2 * p2 h) : okB h n = true := by
  unfold okB; simp; exact ⟨h1, h2, h3, h4⟩
theorem ok_of {h n : Int} (hk : okB h n = true) : 1 ≤ h ∧ h ≤ 32 ∧ 1 ≤ n ∧ n < 2 * p2 h := by
  unfold okB at hk; simpa using hk
theorem wrapu_id {x : Int} (h0 : 0 ≤ x) (h1 : x < 18446744073709551616) : IntKind.u64.wrap x = x := by
  rw [IntKind.wrap_u64]; omega
theorem ret_int {k : IntKind} {a b : Int} (h : a = b) : Ending.returned (.int k a) = .returned (.int k b) := by rw [h]
theorem ret_bool {a b : Bool} (h : a = b) : Ending.returned (.bool a) = .returned (.bool b) := by rw [h]
theorem and_one (n : Int) (h0 : 0 ≤ n) (h1 : n ≤ 18446744073709551615) : wrap64 (bits BinOp.and IntKind.u64 n 1) = n % 2 := by
  rw [u64_and n 1 h0 (by omega) (by decide) (by decide)]
  rw [show (1 : Int).toNat = 1 from rfl, nat_mask1]
  unfold wrap64
  omega
/-- what Check answers -/
def eChk (h n : Int) : Int := if okB h n then 0 else 1
theorem eChk_yes {h n : Int} (h1 : 1 ≤ h) (h2 : h ≤ 32) (h3 : 1 ≤ n) (h4 : n < 2 * p2 h) : eChk h n = 0 := by
  unfold eChk; rw [ok_mk h1 h2 h3 h4]; rfl
theorem eChk_no {h n : Int} (hn : ¬ (1 ≤ h ∧ h ≤ 32 ∧ 1 ≤ n ∧ n < 2 * p2 h)) : eChk h n = 1 := by
  unfold eChk okB; rw [decide_eq_false hn]; rfl
/-- there is such a height -/
def htB (h : Int) : Bool := decide (1 ≤ h ∧ h ≤ 32)
/-- what Leaf answers: the error, and the node -/
def leafE (h i : Int) : Int := if htB h then (if i < p2 h then 0 else 4) else 1
def leafV (h i : Int) : Int := if leafE h i = 0 then p2 h + i else 0
def depV (h n : Int) : Int := if okB h n then dep n else 0
def upE (h n d : Int) : Int := if okB h n then (if 0 ≤ d ∧ d ≤ dep n then 0 else 4) else 1
def upV (h n d : Int) : Int := if upE h n d = 0 then up n d else 0
def childE (h n s : Int) : Int := if okB h n && (decide (s = 0) || decide (s = 1)) then (if n < p2 h then 0 else 4) else 1
def childV (h n s : Int) : Int := if childE h n s = 0 then 2 * n + s else 0
def othE (h n : Int) : Int := if okB h n then (if n = 1 then 4 else 0) else 1
def oth (n : Int) : Int := if n % 2 = 0 then n + 1 else n - 1
def othV (h n : Int) : Int := if othE h n = 0 then oth n else 0
def eBoth (h a b : Int) : Int := if okB h a && okB h b then 0 else 1
def abvV (h a b : Int) : Bool := okB h a && okB h b && abv a b
/-- of two nodes of one depth the deepest one above both -/
def xr (a b : Int) : Int := (a.toNat ^^^ b.toNat : Nat)
def bl (a : Int) : Int := (bitLen a.toNat : Nat)
def meet1 (a b : Int) : Int := a / p2 (bl (xr a b))
def meet (a b : Int) : Int := meet1 (up a (min (dep a) (dep b))) (up b (min (dep a) (dep b)))
def meetV (h a b : Int) : Int := if eBoth h a b = 0 then meet a b else 0
def low (h n : Int) : Int := n * p2 (h - dep n) - p2 h
def high (h n : Int) : Int := low h n + (p2 (h - dep n) - 1)
def lowV (h n : Int) : Int := if okB h n then low h n else 0
def highV (h n : Int) : Int := if okB h n then high h n else 0

theorem up_bd {n d : Int} (hn : 1 ≤ n) (hd0 : 0 ≤ d) (hd : d ≤ dep n) : p2 d ≤ up n d ∧ up n d < 2 * p2 d ∧ up n d ≤ n := by
  have h1 := dep_le n hn
  have h2 := dep_lt n hn
  have h3 := p2_pos (dep n - d)
  have h4 : p2 (dep n) = p2 d * p2 (dep n - d) := by rw [← p2_add hd0 (by omega)]; congr 1; omega
  unfold up
  rw [h4] at h1 h2
  generalize p2 (dep n - d) = q at *
  generalize p2 d = r at *
  refine ⟨(Int.le_ediv_iff_mul_le (by omega)).2 h1, Int.ediv_lt_of_lt_mul (by omega) (by rw [Int.mul_assoc]; exact h2), ?_⟩
  exact Int.ediv_le_self _ (by omega)
theorem up_pos {n d : Int} (hn : 1 ≤ n) (hd0 : 0 ≤ d) (hd : d ≤ dep n) : 1 ≤ up n d := by
  have := (up_bd hn hd0 hd).1
  have := p2_pos d
  omega
theorem leafE_yes {h i : Int} (h1 : 1 ≤ h) (h2 : h ≤ 32) (h3 : i < p2 h) : leafE h i = 0 := by simp [leafE, htB, h1, h2, h3]
theorem leafE_no {h i : Int} (h1 : 1 ≤ h) (h2 : h ≤ 32) (h3 : ¬ i < p2 h) : leafE h i = 4 := by simp [leafE, htB, h1, h2, h3]
theorem leafE_ht {h i : Int} (h1 : ¬ (1 ≤ h ∧ h ≤ 32)) : leafE h i = 1 := by unfold leafE htB; rw [decide_eq_false h1]; rfl
theorem eChk_ok {h n : Int} (hk : okB h n = true) : eChk h n = 0 := by unfold eChk; rw [hk]; rfl
theorem eChk_nok {h n : Int} (hk : ¬ okB h n = true) : eChk h n = 1 := by unfold eChk; rw [if_neg hk]
theorem childE_yes {h n s : Int} (hk : okB h n = true) (hs : s = 0 ∨ s = 1) (hl : n < p2 h) : childE h n s = 0 := by
  unfold childE; rw [hk, if_pos hl]; rcases hs with hs | hs <;> subst hs <;> rfl
theorem childE_no {h n s : Int} (hk : okB h n = true) (hs : s = 0 ∨ s = 1) (hl : ¬ n < p2 h) : childE h n s = 4 := by
  unfold childE; rw [hk, if_neg hl]; rcases hs with hs | hs <;> subst hs <;> rfl
theorem childE_side {h n s : Int} (hs : ¬ (s = 0 ∨ s = 1)) : childE h n s = 1 := by
  unfold childE
  rw [decide_eq_false (show ¬ s = 0 by omega), decide_eq_false (show ¬ s = 1 by omega)]
  simp
theorem childE_nok {h n s : Int} (hk : ¬ okB h n = true) : childE h n s = 1 := by
  unfold childE; rw [Bool.eq_false_iff.2 hk]; rfl
theorem eBoth_no {h a b : Int} (hk : ¬ (okB h a = true ∧ okB h b = true)) : eBoth h a b = 1 := by
  unfold eBoth; rw [if_neg (by simpa using hk)]
theorem xor_one (n : Int) (h0 : 0 ≤ n) (h1 : n ≤ 18446744073709551615) : bits BinOp.xor IntKind.u64 n 1 = oth n := by
  rw [u64_xor n 1 h0 (by omega) (by decide) (by decide)]
  rw [show (1 : Int).toNat = 1 from rfl]
  obtain ⟨m, rfl⟩ := Int.eq_ofNat_of_zero_le h0
  rw [Int.toNat_natCast]
  unfold oth
  have e1 : (m ^^^ 1) / 2 = m / 2 := by
    rw [Nat.xor_div_two]; simp
  have e2 : (m ^^^ 1) % 2 = (m + 1) % 2 := by
    have := @Nat.xor_mod_two_pow m 1 1
    rw [Nat.pow_one] at this
    rw [this]
    have h2 : m % 2 = 0 ∨ m % 2 = 1 := by omega
    rcases h2 with h2 | h2
    · rw [h2, show (m + 1) % 2 = 1 by omega]; rfl
    · rw [h2, show (m + 1) % 2 = 0 by omega]; rfl
  split <;> omega
theorem p2_33 : p2 33 = 8589934592 := by decide +kernel
theorem ok_lt {h n : Int} (hk : okB h n = true) : n < 8589934592 := by
  obtain ⟨k1, k2, k3, k4⟩ := ok_of hk
  have := p2_32 k2
  omega
theorem xr_eq {a b : Int} (h0 : 0 ≤ a) (h1 : a ≤ 18446744073709551615) (h2 : 0 ≤ b) (h3 : b ≤ 18446744073709551615) : bits BinOp.xor IntKind.u64 a b = xr a b :=
  u64_xor a b h0 (by omega) h2 (by omega)
theorem xr_bd {a b : Int} (h0 : 0 ≤ a) (h1 : a < 8589934592) (h2 : 0 ≤ b) (h3 : b < 8589934592) : 0 ≤ xr a b ∧ xr a b < 8589934592 := by
  have := @Nat.xor_lt_two_pow a.toNat b.toNat 33 (by omega) (by omega)
  unfold xr
  omega
theorem bl_bd {a : Int} (h1 : a < 8589934592) : 0 ≤ bl a ∧ bl a ≤ 33 := by
  refine ⟨by unfold bl; omega, ?_⟩
  unfold bl bitLen
  split
  · decide
  · rename_i h
    have := (Nat.log2_lt h).2 (show a.toNat < 2 ^ 33 by omega)
    omega
theorem low_facts {h n : Int} (hk : okB h n = true) : IntKind.u64.wrap (n * 2 ^ (h - dep n).toNat) = low h n + p2 h ∧ 0 ≤ low h n ∧ low h n < p2 h ∧ IntKind.u64.wrap (2 ^ (h - dep n).toNat) = p2 (h - dep n) ∧ p2 (h - dep n) ≤ 4294967296 := by
  obtain ⟨k1, k2, k3, k4⟩ := ok_of hk
  have hd := dep_le_of k3 (by omega) k4
  have h0 := dep_nonneg n
  have h1 := dep_le n k3
  have h2 := dep_lt n k3
  have h3 := p2_32 k2
  have h4 : p2 h = p2 (dep n) * p2 (h - dep n) := by rw [← p2_add h0 (by omega)]; congr 1; omega
  have h5 := p2_pos (h - dep n)
  have h6 : n * p2 (h - dep n) ≥ p2 h := by rw [h4]; exact Int.mul_le_mul_of_nonneg_right h1 (by omega)
  have h7 : n * p2 (h - dep n) < 2 * p2 h := by rw [h4, ← Int.mul_assoc]; exact Int.mul_lt_mul_of_pos_right h2 (by omega)
  have h8 := p2_32 (show h - dep n ≤ 32 by omega)
  have e : (2:Int) ^ (h - dep n).toNat = p2 (h - dep n) := rfl
  rw [e, wrapu_id (x := p2 (h - dep n)) (by omega) (by omega)]
  unfold low
  generalize n * p2 (h - dep n) = x at *
  rw [wrapu_id (x := x) (by omega) (by omega)]
  omega
end M
end Go.Proofs.Ytjaikcnfepbpgaa
