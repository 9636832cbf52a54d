/-
  Plain mathematics of a whole binary tree, second part: nodes above nodes, spans of leaves, where two meet. It imports nothing of the program.
-/
import Derived.Test.YtjaikcnfepbpgaaZMath
namespace Go.Proofs.Ytjaikcnfepbpgaa
open Go.RowKit
namespace M

theorem div_eq {a b q : Int} (hq : 0 < q) : b / q = a ↔ a * q ≤ b ∧ b < (a + 1) * q := by
  constructor
  · intro h; subst h
    exact ⟨Int.ediv_mul_le b (by omega), Int.lt_ediv_add_one_mul_self b hq⟩
  · intro ⟨h1, h2⟩
    have h3 := Int.ediv_lt_of_lt_mul hq h2
    have h4 := (Int.le_ediv_iff_mul_le hq).2 h1
    omega
theorem up_dep {n d : Int} (hn : 1 ≤ n) (hd0 : 0 ≤ d) (hd : d ≤ dep n) : dep (up n d) = d := by
  obtain ⟨h1, h2, _⟩ := up_bd hn hd0 hd
  exact (dep_iff _ _ (up_pos hn hd0 hd) hd0).2 ⟨h1, h2⟩
theorem up_self (n : Int) : up n (dep n) = n := by
  unfold up; rw [Int.sub_self, p2_zero, Int.ediv_one]
theorem up_up {n d e : Int} (hn : 1 ≤ n) (he : 0 ≤ e) (hed : e ≤ d) (hd : d ≤ dep n) : up (up n d) e = up n e := by
  have h1 := up_dep hn (by omega) hd
  unfold up at h1 ⊢
  rw [h1]
  rw [Int.ediv_ediv_of_nonneg (by have := p2_pos (dep n - d); omega), ← p2_add (by omega) (by omega)]
  congr 2; omega
theorem abv_iff {a b : Int} : abv a b = true ↔ dep a ≤ dep b ∧ up b (dep a) = a := by
  unfold abv; simp
theorem abv_up {n d : Int} (hn : 1 ≤ n) (hd0 : 0 ≤ d) (hd : d ≤ dep n) : abv (up n d) n = true := by
  rw [abv_iff, up_dep hn hd0 hd]; exact ⟨hd, rfl⟩
theorem abv_of_up {a b : Int} (h : abv a b = true) : a = up b (dep a) := (abv_iff.1 h).2.symm
theorem abv_num {a b : Int} : abv a b = true ↔ dep a ≤ dep b ∧ a * p2 (dep b - dep a) ≤ b ∧ b < (a + 1) * p2 (dep b - dep a) := by
  rw [abv_iff]
  unfold up
  rw [div_eq (by have := p2_pos (dep b - dep a); omega)]
theorem ok_dep {h n : Int} (hk : okB h n = true) : 0 ≤ dep n ∧ dep n ≤ h := by
  obtain ⟨k1, k2, k3, k4⟩ := ok_of hk
  exact ⟨dep_nonneg n, dep_le_of k3 (by omega) k4⟩
theorem ok_iff_dep {h n : Int} (h1 : 1 ≤ h) (h2 : h ≤ 32) (h3 : 1 ≤ n) : okB h n = true ↔ dep n ≤ h := by
  constructor
  · intro hk; exact (ok_dep hk).2
  · intro hd
    refine ok_mk h1 h2 h3 ?_
    have := dep_lt n h3
    have := p2_mono hd
    omega
theorem ok_up {h n d : Int} (hk : okB h n = true) (hd0 : 0 ≤ d) (hd : d ≤ dep n) : okB h (up n d) = true := by
  obtain ⟨k1, k2, k3, k4⟩ := ok_of hk
  have h5 := (ok_dep hk).2
  rw [ok_iff_dep k1 k2 (up_pos k3 hd0 hd), up_dep k3 hd0 hd]; omega

theorem low_num {h n : Int} : low h n = n * p2 (h - dep n) - p2 h := rfl
theorem high_num {h n : Int} : high h n = (n + 1) * p2 (h - dep n) - 1 - p2 h := by
  unfold high low; rw [Int.add_mul]; omega
theorem p2_split {d e h : Int} (h1 : d ≤ e) (h2 : e ≤ h) : p2 (h - d) = p2 (e - d) * p2 (h - e) := by
  rw [← p2_add (by omega) (by omega)]; congr 1; omega
/-- the leaves of b are a's, just if a is above b -/
theorem within_iff {h a b : Int} (ha : okB h a = true) (hb : okB h b = true) : (low h a ≤ low h b ∧ high h b ≤ high h a) ↔ abv a b = true := by
  obtain ⟨a1, a2⟩ := ok_dep ha
  obtain ⟨b1, b2⟩ := ok_dep hb
  rw [abv_num, low_num, low_num, high_num, high_num]
  have pa := p2_pos (h - dep a)
  have pb := p2_pos (h - dep b)
  by_cases hd : dep a ≤ dep b
  · rw [p2_split hd b2, ← Int.mul_assoc, ← Int.mul_assoc]
    generalize p2 (dep b - dep a) = q
    generalize p2 (h - dep b) = B at *
    have e1 : a * q * B ≤ b * B ↔ a * q ≤ b := ⟨fun h => Int.le_of_mul_le_mul_right h (by omega), fun h => Int.mul_le_mul_of_nonneg_right h (by omega)⟩
    have e2 : (b + 1) * B ≤ (a + 1) * q * B ↔ b + 1 ≤ (a + 1) * q := ⟨fun h => Int.le_of_mul_le_mul_right h (by omega), fun h => Int.mul_le_mul_of_nonneg_right h (by omega)⟩
    omega
  · have hd' : dep b + 1 ≤ dep a := by omega
    rw [p2_split (show dep b ≤ dep a by omega) a2]
    have q2 : 2 ≤ p2 (dep a - dep b) := by
      have := p2_mono (show 1 ≤ dep a - dep b by omega)
      have e : p2 1 = 2 := by decide
      omega
    rw [Int.add_mul, Int.add_mul, Int.one_mul, Int.one_mul]
    generalize p2 (dep a - dep b) = q at *
    generalize p2 (h - dep a) = A at *
    have : 2 * A ≤ q * A := Int.mul_le_mul_of_nonneg_right q2 (by omega)
    constructor
    · intro h; omega
    · intro h; omega
theorem abv_antisymm {a b : Int} (h1 : abv a b = true) (h2 : abv b a = true) : a = b := by
  rw [abv_iff] at h1 h2
  have e : dep a = dep b := by omega
  rw [← h1.2, e, up_self]
theorem abv_refl (a : Int) : abv a a = true := by rw [abv_iff, up_self]; exact ⟨Int.le_refl _, rfl⟩
theorem apart_iff1 {h a b : Int} (hb : okB h b = true) (hd : dep a ≤ dep b) : (high h a < low h b ∨ high h b < low h a) ↔ ¬ (abv a b = true) := by
  obtain ⟨b1, b2⟩ := ok_dep hb
  rw [abv_num, low_num, low_num, high_num, high_num]
  have pb := p2_pos (h - dep b)
  rw [p2_split hd b2, ← Int.mul_assoc, ← Int.mul_assoc]
  generalize p2 (dep b - dep a) = q
  generalize p2 (h - dep b) = B at *
  have e1 : (a + 1) * q * B ≤ b * B ↔ (a + 1) * q ≤ b := ⟨fun h => Int.le_of_mul_le_mul_right h (by omega), fun h => Int.mul_le_mul_of_nonneg_right h (by omega)⟩
  have e2 : (b + 1) * B ≤ a * q * B ↔ b + 1 ≤ a * q := ⟨fun h => Int.le_of_mul_le_mul_right h (by omega), fun h => Int.mul_le_mul_of_nonneg_right h (by omega)⟩
  omega
theorem apart_iff {h a b : Int} (ha : okB h a = true) (hb : okB h b = true) : (high h a < low h b ∨ high h b < low h a) ↔ (¬ (abv a b = true) ∧ ¬ (abv b a = true)) := by
  by_cases hd : dep a ≤ dep b
  · rw [apart_iff1 hb hd]
    constructor
    · intro h
      refine ⟨h, fun h2 => h ?_⟩
      have h3 := abv_iff.1 h2
      have e : dep a = dep b := by omega
      have : b = a := by rw [← h3.2, ← e, up_self]
      subst this; exact abv_refl _
    · intro h; exact h.1
  · rw [Or.comm, apart_iff1 ha (by omega)]
    constructor
    · intro h
      refine ⟨fun h2 => ?_, h⟩
      have h3 := abv_iff.1 h2
      omega
    · intro h; exact h.2
theorem low_bd {h n : Int} (hk : okB h n = true) : 0 ≤ low h n ∧ low h n ≤ high h n ∧ high h n < p2 h := by
  obtain ⟨l1, l2, l3, l4, l5⟩ := low_facts hk
  obtain ⟨k1, k2, k3, k4⟩ := ok_of hk
  obtain ⟨d1, d2⟩ := ok_dep hk
  have := p2_pos (h - dep n)
  have h2 := dep_lt n k3
  have h4 : p2 h = p2 (dep n) * p2 (h - dep n) := by rw [← p2_add d1 (by omega)]; congr 1; omega
  refine ⟨l2, by unfold high; omega, ?_⟩
  rw [high_num]
  have : (n + 1) * p2 (h - dep n) ≤ (2 * p2 (dep n)) * p2 (h - dep n) := Int.mul_le_mul_of_nonneg_right (by omega) (by omega)
  rw [Int.mul_assoc, ← h4] at this
  omega

/-- a leaf's node -/
theorem leaf_facts {h i : Int} (h0 : 0 ≤ i) (hE : leafE h i = 0) : leafV h i = p2 h + i ∧ okB h (p2 h + i) = true ∧ dep (p2 h + i) = h ∧ low h (p2 h + i) = i ∧ high h (p2 h + i) = i := by
  have hh : htB h = true ∧ i < p2 h := by
    unfold leafE at hE
    cases hx : htB h <;> simp [hx] at hE
    exact ⟨rfl, hE⟩
  obtain ⟨hh, hi⟩ := hh
  unfold htB at hh
  have hh2 : 1 ≤ h ∧ h ≤ 32 := by simpa using hh
  have hp := p2_pos h
  have hd : dep (p2 h + i) = h := (dep_iff _ _ (by omega) (by omega)).2 ⟨by omega, by omega⟩
  refine ⟨by unfold leafV; rw [if_pos hE], ok_mk hh2.1 hh2.2 (by omega) (by omega), hd, ?_, ?_⟩
  · rw [low_num, hd, Int.sub_self, p2_zero]; omega
  · rw [high_num, hd, Int.sub_self, p2_zero]; omega
theorem upE_zero {h n d : Int} (hU : upE h n d = 0) : okB h n = true ∧ 0 ≤ d ∧ d ≤ dep n ∧ upV h n d = up n d := by
  have hv : upV h n d = up n d := by unfold upV; rw [if_pos hU]
  unfold upE at hU
  cases hx : okB h n <;> simp [hx] at hU
  exact ⟨rfl, hU.1, hU.2, hv⟩
theorem upE_bad {h n d : Int} (hk : okB h n = true) (hU : ¬ upE h n d = 0) : upE h n d = 4 ∧ (d < 0 ∨ dep n < d) := by
  unfold upE at hU ⊢
  rw [if_pos hk] at hU ⊢
  by_cases hc : 0 ≤ d ∧ d ≤ dep n
  · rw [if_pos hc] at hU; exact absurd rfl hU
  · rw [if_neg hc]; exact ⟨rfl, by omega⟩
theorem lowV_ok {h n : Int} (hk : okB h n = true) : lowV h n = low h n := by unfold lowV; rw [if_pos hk]
theorem highV_ok {h n : Int} (hk : okB h n = true) : highV h n = high h n := by unfold highV; rw [if_pos hk]
theorem depV_ok {h n : Int} (hk : okB h n = true) : depV h n = dep n := by unfold depV; rw [if_pos hk]
theorem eBoth_ok {h a b : Int} (ha : okB h a = true) (hb : okB h b = true) : eBoth h a b = 0 := by unfold eBoth; rw [ha, hb]; rfl
theorem abvV_ok {h a b : Int} (ha : okB h a = true) (hb : okB h b = true) : abvV h a b = abv a b := by unfold abvV; rw [ha, hb]; rfl
theorem meetV_ok {h a b : Int} (ha : okB h a = true) (hb : okB h b = true) : meetV h a b = meet a b := by unfold meetV; rw [eBoth_ok ha hb]; rfl
end M
end Go.Proofs.Ytjaikcnfepbpgaa
