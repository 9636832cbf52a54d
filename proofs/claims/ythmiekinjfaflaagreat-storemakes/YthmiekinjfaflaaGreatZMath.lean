/-
  Plain mathematics of a whole binary tree: powers of two, depths, and nodes above others, as functions on integers. It imports nothing of the program.
-/
import Derived.WalkKit
import Derived.Laws.MathBits
namespace Go.Proofs.YthmiekinjfaflaaGreat
open Go.RowKit
namespace M

/-- 2 to the power k. -/
def p2 (k : Int) : Int := 2 ^ k.toNat
/-- how deep a node is. -/
def dep (n : Int) : Int := (Nat.log2 n.toNat : Nat)
/-- the node above n of depth d. -/
def up (n d : Int) : Int := n / p2 (dep n - d)
/-- there is such a node -/
def okB (h n : Int) : Bool := decide (1 ≤ h ∧ h ≤ 32 ∧ 1 ≤ n ∧ n < 2 * p2 h)
/-- a is above b -/
def abv (a b : Int) : Bool := decide (dep a ≤ dep b) && (up b (dep a) == a)

theorem p2_nat (k : Nat) : p2 (k : Int) = ((2 ^ k : Nat) : Int) := by simp [p2]
theorem p2_pos (k : Int) : 1 ≤ p2 k := by
  have : 0 < (2:Int) ^ k.toNat := Int.pow_pos (by decide)
  unfold p2; omega
theorem p2_succ (k : Int) (h : 0 ≤ k) : p2 (k + 1) = 2 * p2 k := by
  unfold p2
  rw [show (k + 1).toNat = k.toNat + 1 by omega, Int.pow_succ]; omega
theorem p2_mono {a b : Int} (h : a ≤ b) : p2 a ≤ p2 b := by
  unfold p2
  have : (2 ^ a.toNat : Nat) ≤ 2 ^ b.toNat := Nat.pow_le_pow_right (by decide) (by omega)
  exact_mod_cast this
theorem p2_lt {a b : Int} (ha : 0 ≤ a) (h : a < b) : p2 a < p2 b := by
  have := p2_mono (show a + 1 ≤ b by omega)
  rw [p2_succ a ha] at this
  have := p2_pos a
  omega
theorem p2_add {a b : Int} (ha : 0 ≤ a) (hb : 0 ≤ b) : p2 (a + b) = p2 a * p2 b := by
  unfold p2
  rw [show (a + b).toNat = a.toNat + b.toNat by omega, Int.pow_add]
theorem p2_zero : p2 0 = 1 := by simp [p2]
theorem p2_32 {h : Int} (hh : h ≤ 32) : p2 h ≤ 4294967296 := by
  have := p2_mono hh
  have e : p2 32 = 4294967296 := by decide
  omega

theorem dep_nonneg (n : Int) : 0 ≤ dep n := by unfold dep; omega
theorem dep_le (n : Int) (hn : 1 ≤ n) : p2 (dep n) ≤ n := by
  have := Nat.log2_self_le (show n.toNat ≠ 0 by omega)
  unfold dep; rw [p2_nat]; omega
theorem dep_lt (n : Int) (hn : 1 ≤ n) : n < 2 * p2 (dep n) := by
  have := @Nat.lt_log2_self n.toNat
  unfold dep; rw [p2_nat]; rw [Nat.pow_succ] at this; omega
theorem dep_iff (n d : Int) (hn : 1 ≤ n) (hd : 0 ≤ d) : dep n = d ↔ p2 d ≤ n ∧ n < 2 * p2 d := by
  have h1 := dep_le n hn
  have h2 := dep_lt n hn
  constructor
  · intro h; subst h; exact ⟨h1, h2⟩
  · intro ⟨h3, h4⟩
    have h0 := dep_nonneg n
    rcases Int.lt_trichotomy (dep n) d with h | h | h
    · have := p2_mono (show dep n + 1 ≤ d by omega)
      rw [p2_succ _ h0] at this; omega
    · exact h
    · have := p2_mono (show d + 1 ≤ dep n by omega)
      rw [p2_succ _ hd] at this; omega
theorem dep_le_of {n h : Int} (hn : 1 ≤ n) (hh : 0 ≤ h) (hl : n < 2 * p2 h) : dep n ≤ h := by
  have h1 := dep_le n hn
  have h0 := dep_nonneg n
  by_cases hc : dep n ≤ h
  · exact hc
  · have := p2_mono (show h + 1 ≤ dep n by omega)
    rw [p2_succ _ hh] at this; omega

theorem p2_64 : p2 64 = 18446744073709551616 := by decide +kernel
theorem dep_63 {n : Int} (hn : 1 ≤ n) (h : n ≤ 18446744073709551615) : dep n ≤ 63 := by
  have h1 := dep_le n hn
  by_cases hc : dep n ≤ 63
  · exact hc
  · have := p2_mono (show 64 ≤ dep n by omega)
    rw [p2_64] at this; omega
theorem bitLen_dep (n : Int) (hn : 1 ≤ n) : ((bitLen n.toNat : Nat) : Int) - 1 = dep n := by
  unfold bitLen dep
  rw [if_neg (by omega)]; omega
theorem ok_mk {h n : Int} (h1 : 1 ≤ h) (h2 : h ≤ 32) (h3 : 1 ≤ n) (h4 : n < 2 * p2 h) : okB h n = true := by
  unfold okB; simp; exact ⟨h1, h2, h3, h4⟩
theorem ok_of {h n : Int} (hk : okB h n = true) : 1 ≤ h ∧ h ≤ 32 ∧ 1 ≤ n ∧ n < 2 * p2 h := by
  unfold okB at hk; simpa using hk
theorem wrapu_id {x : Int} (h0 : 0 ≤ x) (h1 : x < 18446744073709551616) : IntKind.u64.wrap x = x := by
  rw [IntKind.wrap_u64]; omega
theorem ret_int {k : IntKind} {a b : Int} (h : a = b) : Ending.returned (.int k a) = .returned (.int k b) := by rw [h]
theorem ret_bool {a b : Bool} (h : a = b) : Ending.returned (.bool a) = .returned (.bool b) := by rw [h]
theorem and_one (n : Int) (h0 : 0 ≤ n) (h1 : n ≤ 18446744073709551615) : wrap64 (bits BinOp.and IntKind.u64 n 1) = n % 2 := by
  rw [u64_and n 1 h0 (by omega) (by decide) (by decide)]
  rw [show (1 : Int).toNat = 1 from rfl, nat_mask1]
  unfold wrap64
  omega
/-- what Check answers -/
def eChk (h n : Int) : Int := if okB h n then 0 else 1
theorem eChk_yes {h n : Int} (h1 : 1 ≤ h) (h2 : h ≤ 32) (h3 : 1 ≤ n) (h4 : n < 2 * p2 h) : eChk h n = 0 := by
  unfold eChk; rw [ok_mk h1 h2 h3 h4]; rfl
theorem eChk_no {h n : Int} (hn : ¬ (1 ≤ h ∧ h ≤ 32 ∧ 1 ≤ n ∧ n < 2 * p2 h)) : eChk h n = 1 := by
  unfold eChk okB; rw [decide_eq_false hn]; rfl
/-- there is such a height -/
def htB (h : Int) : Bool := decide (1 ≤ h ∧ h ≤ 32)
/-- what Leaf answers: the error, and the node -/
def leafE (h i : Int) : Int := if htB h then (if i < p2 h then 0 else 4) else 1
def leafV (h i : Int) : Int := if leafE h i = 0 then p2 h + i else 0
def depV (h n : Int) : Int := if okB h n then dep n else 0
def upE (h n d : Int) : Int := if okB h n then (if 0 ≤ d ∧ d ≤ dep n then 0 else 4) else 1
def upV (h n d : Int) : Int := if upE h n d = 0 then up n d else 0
def childE (h n s : Int) : Int := if okB h n && (decide (s = 0) || decide (s = 1)) then (if n < p2 h then 0 else 4) else 1
def childV (h n s : Int) : Int := if childE h n s = 0 then 2 * n + s else 0
def othE (h n : Int) : Int := if okB h n then (if n = 1 then 4 else 0) else 1
def oth (n : Int) : Int := if n % 2 = 0 then n + 1 else n - 1
def othV (h n : Int) : Int := if othE h n = 0 then oth n else 0
def eBoth (h a b : Int) : Int := if okB h a && okB h b then 0 else 1
def abvV (h a b : Int) : Bool := okB h a && okB h b && abv a b
/-- of two nodes of one depth the deepest one above both -/
def xr (a b : Int) : Int := (a.toNat ^^^ b.toNat : Nat)
def bl (a : Int) : Int := (bitLen a.toNat : Nat)
def meet1 (a b : Int) : Int := a / p2 (bl (xr a b))
def meet (a b : Int) : Int := meet1 (up a (min (dep a) (dep b))) (up b (min (dep a) (dep b)))
def meetV (h a b : Int) : Int := if eBoth h a b = 0 then meet a b else 0
def low (h n : Int) : Int := n * p2 (h - dep n) - p2 h
def high (h n : Int) : Int := low h n + (p2 (h - dep n) - 1)
def lowV (h n : Int) : Int := if okB h n then low h n else 0
def highV (h n : Int) : Int := if okB h n then high h n else 0

theorem up_bd {n d : Int} (hn : 1 ≤ n) (hd0 : 0 ≤ d) (hd : d ≤ dep n) : p2 d ≤ up n d ∧ up n d < 2 * p2 d ∧ up n d ≤ n := by
  have h1 := dep_le n hn
  have h2 := dep_lt n hn
  have h3 := p2_pos (dep n - d)
  have h4 : p2 (dep n) = p2 d * p2 (dep n - d) := by rw [← p2_add hd0 (by omega)]; congr 1; omega
  unfold up
  rw [h4] at h1 h2
  generalize p2 (dep n - d) = q at *
  generalize p2 d = r at *
  refine ⟨(Int.le_ediv_iff_mul_le (by omega)).2 h1, Int.ediv_lt_of_lt_mul (by omega) (by rw [Int.mul_assoc]; exact h2), ?_⟩
  exact Int.ediv_le_self _ (by omega)
theorem up_pos {n d : Int} (hn : 1 ≤ n) (hd0 : 0 ≤ d) (hd : d ≤ dep n) : 1 ≤ up n d := by
  have := (up_bd hn hd0 hd).1
  have := p2_pos d
  omega
theorem leafE_yes {h i : Int} (h1 : 1 ≤ h) (h2 : h ≤ 32) (h3 : i < p2 h) : leafE h i = 0 := by simp [leafE, htB, h1, h2, h3]
theorem leafE_no {h i : Int} (h1 : 1 ≤ h) (h2 : h ≤ 32) (h3 : ¬ i < p2 h) : leafE h i = 4 := by simp [leafE, htB, h1, h2, h3]
theorem leafE_ht {h i : Int} (h1 : ¬ (1 ≤ h ∧ h ≤ 32)) : leafE h i = 1 := by unfold leafE htB; rw [decide_eq_false h1]; rfl
theorem eChk_ok {h n : Int} (hk : okB h n = true) : eChk h n = 0 := by unfold eChk; rw [hk]; rfl
theorem eChk_nok {h n : Int} (hk : ¬ okB h n = true) : eChk h n = 1 := by unfold eChk; rw [if_neg hk]
theorem childE_yes {h n s : Int} (hk : okB h n = true) (hs : s = 0 ∨ s = 1) (hl : n < p2 h) : childE h n s = 0 := by
  unfold childE; rw [hk, if_pos hl]; rcases hs with hs | hs <;> subst hs <;> rfl
theorem childE_no {h n s : Int} (hk : okB h n = true) (hs : s = 0 ∨ s = 1) (hl : ¬ n < p2 h) : childE h n s = 4 := by
  unfold childE; rw [hk, if_neg hl]; rcases hs with hs | hs <;> subst hs <;> rfl
theorem childE_side {h n s : Int} (hs : ¬ (s = 0 ∨ s = 1)) : childE h n s = 1 := by
  unfold childE
  rw [decide_eq_false (show ¬ s = 0 by omega), decide_eq_false (show ¬ s = 1 by omega)]
  simp
theorem childE_nok {h n s : Int} (hk : ¬ okB h n = true) : childE h n s = 1 := by
  unfold childE; rw [Bool.eq_false_iff.2 hk]; rfl
theorem eBoth_no {h a b : Int} (hk : ¬ (okB h a = true ∧ okB h b = true)) : eBoth h a b = 1 := by
  unfold eBoth; rw [if_neg (by simpa using hk)]
theorem xor_one (n : Int) (h0 : 0 ≤ n) (h1 : n ≤ 18446744073709551615) : bits BinOp.xor IntKind.u64 n 1 = oth n := by
  rw [u64_xor n 1 h0 (by omega) (by decide) (by decide)]
  rw [show (1 : Int).toNat = 1 from rfl]
  obtain ⟨m, rfl⟩ := Int.eq_ofNat_of_zero_le h0
  rw [Int.toNat_natCast]
  unfold oth
  have e1 : (m ^^^ 1) / 2 = m / 2 := by
    rw [Nat.xor_div_two]; simp
  have e2 : (m ^^^ 1) % 2 = (m + 1) % 2 := by
    have := @Nat.xor_mod_two_pow m 1 1
    rw [Nat.pow_one] at this
    rw [this]
    have h2 : m % 2 = 0 ∨ m % 2 = 1 := by omega
    rcases h2 with h2 | h2
    · rw [h2, show (m + 1) % 2 = 1 by omega]; rfl
    · rw [h2, show (m + 1) % 2 = 0 by omega]; rfl
  split <;> omega
theorem p2_33 : p2 33 = 8589934592 := by decide +kernel
theorem ok_lt {h n : Int} (hk : okB h n = true) : n < 8589934592 := by
  obtain ⟨k1, k2, k3, k4⟩ := ok_of hk
  have := p2_32 k2
  omega
theorem xr_eq {a b : Int} (h0 : 0 ≤ a) (h1 : a ≤ 18446744073709551615) (h2 : 0 ≤ b) (h3 : b ≤ 18446744073709551615) : bits BinOp.xor IntKind.u64 a b = xr a b :=
  u64_xor a b h0 (by omega) h2 (by omega)
theorem xr_bd {a b : Int} (h0 : 0 ≤ a) (h1 : a < 8589934592) (h2 : 0 ≤ b) (h3 : b < 8589934592) : 0 ≤ xr a b ∧ xr a b < 8589934592 := by
  have := @Nat.xor_lt_two_pow a.toNat b.toNat 33 (by omega) (by omega)
  unfold xr
  omega
theorem bl_bd {a : Int} (h1 : a < 8589934592) : 0 ≤ bl a ∧ bl a ≤ 33 := by
  refine ⟨by unfold bl; omega, ?_⟩
  unfold bl bitLen
  split
  · decide
  · rename_i h
    have := (Nat.log2_lt h).2 (show a.toNat < 2 ^ 33 by omega)
    omega
theorem low_facts {h n : Int} (hk : okB h n = true) : IntKind.u64.wrap (n * 2 ^ (h - dep n).toNat) = low h n + p2 h ∧ 0 ≤ low h n ∧ low h n < p2 h ∧ IntKind.u64.wrap (2 ^ (h - dep n).toNat) = p2 (h - dep n) ∧ p2 (h - dep n) ≤ 4294967296 := by
  obtain ⟨k1, k2, k3, k4⟩ := ok_of hk
  have hd := dep_le_of k3 (by omega) k4
  have h0 := dep_nonneg n
  have h1 := dep_le n k3
  have h2 := dep_lt n k3
  have h3 := p2_32 k2
  have h4 : p2 h = p2 (dep n) * p2 (h - dep n) := by rw [← p2_add h0 (by omega)]; congr 1; omega
  have h5 := p2_pos (h - dep n)
  have h6 : n * p2 (h - dep n) ≥ p2 h := by rw [h4]; exact Int.mul_le_mul_of_nonneg_right h1 (by omega)
  have h7 : n * p2 (h - dep n) < 2 * p2 h := by rw [h4, ← Int.mul_assoc]; exact Int.mul_lt_mul_of_pos_right h2 (by omega)
  have h8 := p2_32 (show h - dep n ≤ 32 by omega)
  have e : (2:Int) ^ (h - dep n).toNat = p2 (h - dep n) := rfl
  rw [e, wrapu_id (x := p2 (h - dep n)) (by omega) (by omega)]
  unfold low
  generalize n * p2 (h - dep n) = x at *
  rw [wrapu_id (x := x) (by omega) (by omega)]
  omega
end M
end Go.Proofs.YthmiekinjfaflaaGreat
namespace Go.Proofs.YthmiekinjfaflaaGreat
open Go.RowKit
namespace M

theorem div_eq {a b q : Int} (hq : 0 < q) : b / q = a ↔ a * q ≤ b ∧ b < (a + 1) * q := by
  constructor
  · intro h; subst h
    exact ⟨Int.ediv_mul_le b (by omega), Int.lt_ediv_add_one_mul_self b hq⟩
  · intro ⟨h1, h2⟩
    have h3 := Int.ediv_lt_of_lt_mul hq h2
    have h4 := (Int.le_ediv_iff_mul_le hq).2 h1
    omega
theorem up_dep {n d : Int} (hn : 1 ≤ n) (hd0 : 0 ≤ d) (hd : d ≤ dep n) : dep (up n d) = d := by
  obtain ⟨h1, h2, _⟩ := up_bd hn hd0 hd
  exact (dep_iff _ _ (up_pos hn hd0 hd) hd0).2 ⟨h1, h2⟩
theorem up_self (n : Int) : up n (dep n) = n := by
  unfold up; rw [Int.sub_self, p2_zero, Int.ediv_one]
theorem up_up {n d e : Int} (hn : 1 ≤ n) (he : 0 ≤ e) (hed : e ≤ d) (hd : d ≤ dep n) : up (up n d) e = up n e := by
  have h1 := up_dep hn (by omega) hd
  unfold up at h1 ⊢
  rw [h1]
  rw [Int.ediv_ediv_of_nonneg (by have := p2_pos (dep n - d); omega), ← p2_add (by omega) (by omega)]
  congr 2; omega
theorem abv_iff {a b : Int} : abv a b = true ↔ dep a ≤ dep b ∧ up b (dep a) = a := by
  unfold abv; simp
theorem abv_up {n d : Int} (hn : 1 ≤ n) (hd0 : 0 ≤ d) (hd : d ≤ dep n) : abv (up n d) n = true := by
  rw [abv_iff, up_dep hn hd0 hd]; exact ⟨hd, rfl⟩
theorem abv_of_up {a b : Int} (h : abv a b = true) : a = up b (dep a) := (abv_iff.1 h).2.symm
theorem abv_num {a b : Int} : abv a b = true ↔ dep a ≤ dep b ∧ a * p2 (dep b - dep a) ≤ b ∧ b < (a + 1) * p2 (dep b - dep a) := by
  rw [abv_iff]
  unfold up
  rw [div_eq (by have := p2_pos (dep b - dep a); omega)]
theorem ok_dep {h n : Int} (hk : okB h n = true) : 0 ≤ dep n ∧ dep n ≤ h := by
  obtain ⟨k1, k2, k3, k4⟩ := ok_of hk
  exact ⟨dep_nonneg n, dep_le_of k3 (by omega) k4⟩
theorem ok_iff_dep {h n : Int} (h1 : 1 ≤ h) (h2 : h ≤ 32) (h3 : 1 ≤ n) : okB h n = true ↔ dep n ≤ h := by
  constructor
  · intro hk; exact (ok_dep hk).2
  · intro hd
    refine ok_mk h1 h2 h3 ?_
    have := dep_lt n h3
    have := p2_mono hd
    omega
theorem ok_up {h n d : Int} (hk : okB h n = true) (hd0 : 0 ≤ d) (hd : d ≤ dep n) : okB h (up n d) = true := by
  obtain ⟨k1, k2, k3, k4⟩ := ok_of hk
  have h5 := (ok_dep hk).2
  rw [ok_iff_dep k1 k2 (up_pos k3 hd0 hd), up_dep k3 hd0 hd]; omega

theorem low_num {h n : Int} : low h n = n * p2 (h - dep n) - p2 h := rfl
theorem high_num {h n : Int} : high h n = (n + 1) * p2 (h - dep n) - 1 - p2 h := by
  unfold high low; rw [Int.add_mul]; omega
theorem p2_split {d e h : Int} (h1 : d ≤ e) (h2 : e ≤ h) : p2 (h - d) = p2 (e - d) * p2 (h - e) := by
  rw [← p2_add (by omega) (by omega)]; congr 1; omega
/-- the leaves of b are a's, just if a is above b -/
theorem within_iff {h a b : Int} (ha : okB h a = true) (hb : okB h b = true) : (low h a ≤ low h b ∧ high h b ≤ high h a) ↔ abv a b = true := by
  obtain ⟨a1, a2⟩ := ok_dep ha
  obtain ⟨b1, b2⟩ := ok_dep hb
  rw [abv_num, low_num, low_num, high_num, high_num]
  have pa := p2_pos (h - dep a)
  have pb := p2_pos (h - dep b)
  by_cases hd : dep a ≤ dep b
  · rw [p2_split hd b2, ← Int.mul_assoc, ← Int.mul_assoc]
    generalize p2 (dep b - dep a) = q
    generalize p2 (h - dep b) = B at *
    have e1 : a * q * B ≤ b * B ↔ a * q ≤ b := ⟨fun h => Int.le_of_mul_le_mul_right h (by omega), fun h => Int.mul_le_mul_of_nonneg_right h (by omega)⟩
    have e2 : (b + 1) * B ≤ (a + 1) * q * B ↔ b + 1 ≤ (a + 1) * q := ⟨fun h => Int.le_of_mul_le_mul_right h (by omega), fun h => Int.mul_le_mul_of_nonneg_right h (by omega)⟩
    omega
  · have hd' : dep b + 1 ≤ dep a := by omega
    rw [p2_split (show dep b ≤ dep a by omega) a2]
    have q2 : 2 ≤ p2 (dep a - dep b) := by
      have := p2_mono (show 1 ≤ dep a - dep b by omega)
      have e : p2 1 = 2 := by decide
      omega
    rw [Int.add_mul, Int.add_mul, Int.one_mul, Int.one_mul]
    generalize p2 (dep a - dep b) = q at *
    generalize p2 (h - dep a) = A at *
    have : 2 * A ≤ q * A := Int.mul_le_mul_of_nonneg_right q2 (by omega)
    constructor
    · intro h; omega
    · intro h; omega
theorem abv_antisymm {a b : Int} (h1 : abv a b = true) (h2 : abv b a = true) : a = b := by
  rw [abv_iff] at h1 h2
  have e : dep a = dep b := by omega
  rw [← h1.2, e, up_self]
theorem abv_refl (a : Int) : abv a a = true := by rw [abv_iff, up_self]; exact ⟨Int.le_refl _, rfl⟩
theorem apart_iff1 {h a b : Int} (hb : okB h b = true) (hd : dep a ≤ dep b) : (high h a < low h b ∨ high h b < low h a) ↔ ¬ (abv a b = true) := by
  obtain ⟨b1, b2⟩ := ok_dep hb
  rw [abv_num, low_num, low_num, high_num, high_num]
  have pb := p2_pos (h - dep b)
  rw [p2_split hd b2, ← Int.mul_assoc, ← Int.mul_assoc]
  generalize p2 (dep b - dep a) = q
  generalize p2 (h - dep b) = B at *
  have e1 : (a + 1) * q * B ≤ b * B ↔ (a + 1) * q ≤ b := ⟨fun h => Int.le_of_mul_le_mul_right h (by omega), fun h => Int.mul_le_mul_of_nonneg_right h (by omega)⟩
  have e2 : (b + 1) * B ≤ a * q * B ↔ b + 1 ≤ a * q := ⟨fun h => Int.le_of_mul_le_mul_right h (by omega), fun h => Int.mul_le_mul_of_nonneg_right h (by omega)⟩
  omega
theorem apart_iff {h a b : Int} (ha : okB h a = true) (hb : okB h b = true) : (high h a < low h b ∨ high h b < low h a) ↔ (¬ (abv a b = true) ∧ ¬ (abv b a = true)) := by
  by_cases hd : dep a ≤ dep b
  · rw [apart_iff1 hb hd]
    constructor
    · intro h
      refine ⟨h, fun h2 => h ?_⟩
      have h3 := abv_iff.1 h2
      have e : dep a = dep b := by omega
      have : b = a := by rw [← h3.2, ← e, up_self]
      subst this; exact abv_refl _
    · intro h; exact h.1
  · rw [Or.comm, apart_iff1 ha (by omega)]
    constructor
    · intro h
      refine ⟨fun h2 => ?_, h⟩
      have h3 := abv_iff.1 h2
      omega
    · intro h; exact h.2
theorem low_bd {h n : Int} (hk : okB h n = true) : 0 ≤ low h n ∧ low h n ≤ high h n ∧ high h n < p2 h := by
  obtain ⟨l1, l2, l3, l4, l5⟩ := low_facts hk
  obtain ⟨k1, k2, k3, k4⟩ := ok_of hk
  obtain ⟨d1, d2⟩ := ok_dep hk
  have := p2_pos (h - dep n)
  have h2 := dep_lt n k3
  have h4 : p2 h = p2 (dep n) * p2 (h - dep n) := by rw [← p2_add d1 (by omega)]; congr 1; omega
  refine ⟨l2, by unfold high; omega, ?_⟩
  rw [high_num]
  have : (n + 1) * p2 (h - dep n) ≤ (2 * p2 (dep n)) * p2 (h - dep n) := Int.mul_le_mul_of_nonneg_right (by omega) (by omega)
  rw [Int.mul_assoc, ← h4] at this
  omega

/-- a leaf's node -/
theorem leaf_facts {h i : Int} (h0 : 0 ≤ i) (hE : leafE h i = 0) : leafV h i = p2 h + i ∧ okB h (p2 h + i) = true ∧ dep (p2 h + i) = h ∧ low h (p2 h + i) = i ∧ high h (p2 h + i) = i := by
  have hh : htB h = true ∧ i < p2 h := by
    unfold leafE at hE
    cases hx : htB h <;> simp [hx] at hE
    exact ⟨rfl, hE⟩
  obtain ⟨hh, hi⟩ := hh
  unfold htB at hh
  have hh2 : 1 ≤ h ∧ h ≤ 32 := by simpa using hh
  have hp := p2_pos h
  have hd : dep (p2 h + i) = h := (dep_iff _ _ (by omega) (by omega)).2 ⟨by omega, by omega⟩
  refine ⟨by unfold leafV; rw [if_pos hE], ok_mk hh2.1 hh2.2 (by omega) (by omega), hd, ?_, ?_⟩
  · rw [low_num, hd, Int.sub_self, p2_zero]; omega
  · rw [high_num, hd, Int.sub_self, p2_zero]; omega
theorem upE_zero {h n d : Int} (hU : upE h n d = 0) : okB h n = true ∧ 0 ≤ d ∧ d ≤ dep n ∧ upV h n d = up n d := by
  have hv : upV h n d = up n d := by unfold upV; rw [if_pos hU]
  unfold upE at hU
  cases hx : okB h n <;> simp [hx] at hU
  exact ⟨rfl, hU.1, hU.2, hv⟩
theorem upE_bad {h n d : Int} (hk : okB h n = true) (hU : ¬ upE h n d = 0) : upE h n d = 4 ∧ (d < 0 ∨ dep n < d) := by
  unfold upE at hU ⊢
  rw [if_pos hk] at hU ⊢
  by_cases hc : 0 ≤ d ∧ d ≤ dep n
  · rw [if_pos hc] at hU; exact absurd rfl hU
  · rw [if_neg hc]; exact ⟨rfl, by omega⟩
theorem lowV_ok {h n : Int} (hk : okB h n = true) : lowV h n = low h n := by unfold lowV; rw [if_pos hk]
theorem highV_ok {h n : Int} (hk : okB h n = true) : highV h n = high h n := by unfold highV; rw [if_pos hk]
theorem depV_ok {h n : Int} (hk : okB h n = true) : depV h n = dep n := by unfold depV; rw [if_pos hk]
theorem eBoth_ok {h a b : Int} (ha : okB h a = true) (hb : okB h b = true) : eBoth h a b = 0 := by unfold eBoth; rw [ha, hb]; rfl
theorem abvV_ok {h a b : Int} (ha : okB h a = true) (hb : okB h b = true) : abvV h a b = abv a b := by unfold abvV; rw [ha, hb]; rfl
theorem meetV_ok {h a b : Int} (ha : okB h a = true) (hb : okB h b = true) : meetV h a b = meet a b := by unfold meetV; rw [eBoth_ok ha hb]; rfl
end M
end Go.Proofs.YthmiekinjfaflaaGreat
