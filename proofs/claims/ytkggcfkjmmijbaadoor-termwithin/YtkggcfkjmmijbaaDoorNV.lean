/-
  Plain mathematics of what a term is made of: it lies ahead, is less deep, and its depth is one more than that of the deepest one. No condition.
-/
import Derived.Test.YtkggcfkjmmijbaaDoorT9
namespace Go.Proofs.YtkggcfkjmmijbaaDoor
namespace M
theorem fold_ge (d : Int → Int) : ∀ (ps : List Int) (m : Int), m ≤ ps.foldl (fun m p => max m (d p + 1)) m ∧ ∀ p ∈ ps, d p + 1 ≤ ps.foldl (fun m p => max m (d p + 1)) m
  | [], m => ⟨Int.le_refl _, by simp⟩
  | q :: ps, m => by
    obtain ⟨h1, h2⟩ := fold_ge d ps (max m (d q + 1))
    rw [List.foldl_cons]
    refine ⟨by omega, fun p hp => ?_⟩
    rcases List.mem_cons.1 hp with rfl | hp
    · omega
    · exact h2 p hp
theorem fold_attains (d : Int → Int) : ∀ (ps : List Int) (m : Int), ps.foldl (fun m p => max m (d p + 1)) m = m ∨ ∃ p ∈ ps, ps.foldl (fun m p => max m (d p + 1)) m = d p + 1
  | [], m => .inl rfl
  | q :: ps, m => by
    rw [List.foldl_cons]
    rcases fold_attains d ps (max m (d q + 1)) with h | ⟨p, hp, h⟩
    · rw [h]
      rcases Int.le_total m (d q + 1) with h2 | h2
      · exact .inr ⟨q, by simp, by omega⟩
      · exact .inl (by omega)
    · exact .inr ⟨p, by simp [hp], h⟩
theorem deep_part {A : List Tm} (hA : Ok A) {a : Nat} (ha : a < A.length) {p : Int} (hp : p ∈ parts (at_ A a)) : deepV A p.toNat + 1 ≤ deepV A a := by
  rw [deepV_eq a (parts_ahead (hA.2 a ha).1)]
  exact (fold_ge (fun p => deepV A p.toNat) _ 0).2 p hp
theorem deep_attains {A : List Tm} (hA : Ok A) {a : Nat} (ha : a < A.length) : deepV A a = 0 ∨ ∃ p ∈ parts (at_ A a), deepV A a = deepV A p.toNat + 1 := by
  rw [deepV_eq a (parts_ahead (hA.2 a ha).1)]
  exact fold_attains (fun p => deepV A p.toNat) _ 0
theorem rk_deep {A : List Tm} (hA : Ok A) {m : Nat} (hm : m < A.length) {k : Nat} (h : Rk A m 0 k) : k ≠ m → deepV A k < deepV A m := by
  refine h.ind (P := fun k => k ≠ m → deepV A k < deepV A m) (fun h => absurd rfl h) fun a p h ih _ hp _ => ?_
  have hle := h.le hA hm
  have h1 := deep_part hA (by omega) hp
  by_cases e : a = m
  · subst e; omega
  · have := ih e; omega
/-- the list of all that it is made of -/
def Win (A : List Tm) (m : Nat) (I : List Int) : Prop :=
  0 < I.length ∧ I.length ≤ m + 1 ∧ I[I.length - 1]? = some (m : Int) ∧ (∀ (q : Nat) (x : Int), I[q]? = some x → 0 ≤ x ∧ x ≤ (m : Int) ∧ Rk A m 0 x.toNat) ∧ (∀ (q : Nat) (x y : Int), I[q]? = some x → I[q + 1]? = some y → x < y) ∧ ∀ k : Nat, Rk A m 0 k → k ≤ m → (k : Int) ∈ I
theorem outL_sorted (f : Nat → Bool) : ∀ (n q : Nat) (x y : Int), (outL f n)[q]? = some x → (outL f n)[q + 1]? = some y → x < y
  | 0, q, x, y, h, _ => by simp [outL] at h
  | n + 1, q, x, y, h, h' => by
    cases hf : f n with
    | false =>
      rw [outL_no f n hf] at h h'
      exact outL_sorted f n q x y h h'
    | true =>
      rw [outL_yes f n hf] at h h'
      by_cases hq : q + 1 < (outL f n).length
      · rw [List.getElem?_append_left (by omega)] at h
        rw [List.getElem?_append_left hq] at h'
        exact outL_sorted f n q x y h h'
      · have hq1 : q + 1 = (outL f n).length := by
          have := (List.getElem?_eq_some_iff.1 h').1
          rw [List.length_append, List.length_singleton] at this
          omega
        rw [List.getElem?_append_right (by omega), hq1, Nat.sub_self] at h'
        simp at h'
        rw [List.getElem?_append_left (by omega)] at h
        obtain ⟨j, hj, _, e⟩ := (outL_mem f n x).1 (List.mem_of_getElem? h)
        omega
theorem win_within {A : List Tm} (hA : Ok A) {m : Nat} (hm : m < A.length) : Win A m (outL (rkB A m 0) (m + 1)) := by
  have hs : rkB A m 0 m = true := (rkB_iff hA hm (by omega)).2 .self
  have e := outL_yes (rkB A m 0) m hs
  refine ⟨by rw [e]; simp, outL_len _ _, ?_, ?_, outL_sorted _ _, ?_⟩
  · rw [e, List.length_append, List.length_singleton, Nat.add_sub_cancel, List.getElem?_append_right (by omega)]
    simp
  · intro q x hx
    obtain ⟨j, hj, h2, rfl⟩ := (outL_mem _ _ _).1 (List.mem_of_getElem? hx)
    exact ⟨by omega, by omega, by rw [Int.toNat_natCast]; exact (rkB_iff hA hm (by omega)).1 h2⟩
  · intro k hk hkm
    exact (outL_mem _ _ _).2 ⟨k, by omega, (rkB_iff hA hm (by omega)).2 hk, rfl⟩
/-- the deepest one of the first q, but m itself -/
def mx (A : List Tm) (m : Nat) (I : List Int) (q : Nat) : Int := (I.take q).foldl (fun d k => if k = (m : Int) then d else max d (deepV A k.toNat)) (-1)
theorem mx_zero (A : List Tm) (m : Nat) (I : List Int) : mx A m I 0 = -1 := by simp [mx]
theorem mx_succ (A : List Tm) (m : Nat) (I : List Int) (q : Nat) (k : Int) (h : I[q]? = some k) : mx A m I (q + 1) = if k = (m : Int) then mx A m I q else max (mx A m I q) (deepV A k.toNat) := by
  obtain ⟨hq, e⟩ := List.getElem?_eq_some_iff.1 h
  unfold mx
  rw [List.take_succ_eq_append_getElem hq, List.foldl_append, e]
  rfl
theorem mx_bd {A : List Tm} (hA : Ok A) {m : Nat} (hm : m < A.length) {I : List Int} (hI : Win A m I) : ∀ q, q ≤ I.length → -1 ≤ mx A m I q ∧ mx A m I q + 1 ≤ deepV A m
  | 0, _ => by
    rw [mx_zero]
    have := (deepV_bd hA (m + 1) m (by omega) hm).1
    omega
  | q + 1, h => by
    obtain ⟨h1, h2⟩ := mx_bd hA hm hI q (by omega)
    have hk : I[q]? = some I[q] := List.getElem?_eq_getElem (by omega)
    rw [mx_succ A m I q _ hk]
    obtain ⟨k0, k1, k2⟩ := hI.2.2.2.1 q _ hk
    split
    · exact ⟨h1, h2⟩
    · rename_i hne
      have := rk_deep hA hm k2 (by omega)
      omega
theorem mx_mem {A : List Tm} {m : Nat} {I : List Int} : ∀ (q j : Nat) (k : Int), j < q → q ≤ I.length → I[j]? = some k → k ≠ (m : Int) → deepV A k.toNat ≤ mx A m I q
  | 0, j, k, h, _, _, _ => by omega
  | q + 1, j, k, h, hq, hk, hne => by
    have hx : I[q]? = some I[q] := List.getElem?_eq_getElem (by omega)
    rw [mx_succ A m I q _ hx]
    by_cases e : j = q
    · subst e
      rw [hx] at hk
      obtain rfl := Option.some.inj hk
      rw [if_neg hne]; omega
    · have := mx_mem (A := A) (m := m) q j k (by omega) (by omega) hk hne
      split <;> omega
theorem mx_all {A : List Tm} (hA : Ok A) {m : Nat} (hm : m < A.length) {I : List Int} (hI : Win A m I) : mx A m I I.length + 1 = deepV A m := by
  obtain ⟨h1, h2⟩ := mx_bd hA hm hI I.length (Nat.le_refl _)
  rcases deep_attains hA hm with h | ⟨p, hp, h⟩
  · omega
  · have pa := parts_ahead (hA.2 m hm).1 p hp
    have hin := hI.2.2.2.2.2 p.toNat (Rk.self.step (Nat.zero_le _) hp) (by omega)
    obtain ⟨j, hj⟩ := List.mem_iff_getElem?.1 hin
    have := mx_mem (A := A) (m := m) I.length j _ (List.getElem?_eq_some_iff.1 hj).1 (Nat.le_refl _) hj (by omega)
    rw [Int.toNat_natCast] at this
    omega
/-- parts of one of them are among them, and lie ahead -/
theorem win_parts {A : List Tm} (hA : Ok A) {m : Nat} (hm : m < A.length) {I : List Int} (hI : Win A m I) {q : Nat} {k : Nat} (hk : I[q]? = some (k : Int)) : ∀ p ∈ parts (at_ A k), p ∈ I ∧ 0 ≤ p ∧ p < k := by
  obtain ⟨_, k1, k2⟩ := hI.2.2.2.1 q _ hk
  rw [Int.toNat_natCast] at k2
  intro p hp
  have pa := parts_ahead (hA.2 k (by omega)).1 p hp
  have := hI.2.2.2.2.2 p.toNat (k2.step (Nat.zero_le _) hp) (by omega)
  rw [show ((p.toNat : Nat) : Int) = p by omega] at this
  exact ⟨this, pa.1, pa.2⟩
def among (I : List Int) (p : Int) (j : Nat) : Bool := (I.take j).any (fun x => decide (x = p))
theorem among_zero (I : List Int) (p : Int) : among I p 0 = false := by simp [among]
theorem among_succ (I : List Int) (p : Int) (j : Nat) (x : Int) (h : I[j]? = some x) : among I p (j + 1) = (among I p j || decide (x = p)) := by
  obtain ⟨hq, e⟩ := List.getElem?_eq_some_iff.1 h
  unfold among
  rw [List.take_succ_eq_append_getElem hq, List.any_append, e]
  simp
theorem among_all (I : List Int) (p : Int) (h : p ∈ I) : among I p I.length = true := by
  unfold among
  rw [List.take_length, List.any_eq_true]
  exact ⟨p, h, by simp⟩
end M
end Go.Proofs.YtkggcfkjmmijbaaDoor
