/-
  Plain mathematics of folds: no two blocks have one fold of one text; of sixteen octets no two have one fold; a beginning of whole sixteens, and then the rest; zeros behind. No condition.
-/
import Derived.Test.YtfedmkklpambgaaB13
import Derived.Test.YtfedmkklpambgaaB8
namespace Go.Proofs.Ytfedmkklpambgaa
namespace M
theorem step_inj {a b : Blk} {P : List Int} : step a P = step b P ↔ a = b := by
  unfold step; rw [mix_inj, xor_inj]
theorem foldN_inj {a b : Blk} {L : List Int} : ∀ n, foldN a L n = foldN b L n ↔ a = b
  | 0 => Iff.rfl
  | n + 1 => by rw [foldN, foldN, step_inj]; exact foldN_inj n
theorem fold_inj {a b : Blk} {L : List Int} : fold a L = fold b L ↔ a = b := foldN_inj _
theorem num_oc (x : BitVec 64) (f : Nat → Int) (o : Nat) (h : ∀ j, j < 8 → f (o + j) = nu x / 2 ^ (8 * j) % 256) : num f o = nu x := by
  have p0 := nu_0 x
  have p1 := nu_1 x
  generalize nu x = n at *
  have d : ∀ j : Nat, n / 2 ^ (8 * j) = 256 * (n / 2 ^ (8 * (j + 1))) + n / 2 ^ (8 * j) % 256 := fun j => by
    rw [← pow_step]; exact (Int.mul_ediv_add_emod _ _).symm
  have t : n / 2 ^ (8 * 8) = 0 := by
    apply Int.ediv_eq_zero_of_lt p0
    have e : (2 : Int) ^ (8 * 8) = 18446744073709551616 := by decide
    omega
  have z : n / 2 ^ (8 * 0) = n := by simp
  have h0 := h 0 (by decide); have h1 := h 1 (by decide); have h2 := h 2 (by decide); have h3 := h 3 (by decide)
  have h4 := h 4 (by decide); have h5 := h 5 (by decide); have h6 := h 6 (by decide); have h7 := h 7 (by decide)
  have d0 := d 0; have d1 := d 1; have d2 := d 2; have d3 := d 3; have d4 := d 4; have d5 := d 5; have d6 := d 6; have d7 := d 7
  rw [← h0] at d0; rw [← h1] at d1; rw [← h2] at d2; rw [← h3] at d3; rw [← h4] at d4; rw [← h5] at d5; rw [← h6] at d6; rw [← h7] at d7
  simp only [Nat.zero_add, Nat.reduceAdd] at d0 d1 d2 d3 d4 d5 d6 d7
  rw [t] at d7
  rw [z] at d0
  clear h0 h1 h2 h3 h4 h5 h6 h7 h d t z p0 p1
  unfold num
  simp only [Nat.add_zero] at d0
  generalize n / 2 ^ (8 * 1) = q1 at *
  generalize n / 2 ^ (8 * 2) = q2 at *
  generalize n / 2 ^ (8 * 3) = q3 at *
  generalize n / 2 ^ (8 * 4) = q4 at *
  generalize n / 2 ^ (8 * 5) = q5 at *
  generalize n / 2 ^ (8 * 6) = q6 at *
  generalize n / 2 ^ (8 * 7) = q7 at *
  omega
theorem ofOct_oc (b : Blk) : ofOct (oc b) = b := by
  have e1 : num (oc b) 0 = nu b.1 := num_oc b.1 (oc b) 0 (fun j hj => by rw [Nat.zero_add, oc_low b j hj])
  have e2 : num (oc b) 8 = nu b.2 := num_oc b.2 (oc b) 8 (fun j hj => (oc_high b (8 + j) j (by omega) hj).symm)
  unfold ofOct
  rw [e1, e2]
  unfold nu
  apply Prod.ext
  · apply BitVec.eq_of_toNat_eq; simp
  · apply BitVec.eq_of_toNat_eq; simp
theorem ofOct_octs (b : Blk) : ofOct (fillF (octs b)) = b := by
  rw [ofOct_congr (f := fillF (octs b)) (g := oc b) (fun j hj => octs_get b j hj), ofOct_oc]
theorem fold_octs (a p : Blk) : fold a (octs p) = mix (xor a p) := by
  unfold fold pcs
  rw [octs_length]
  show step a (pc (octs p) 0) = _
  unfold step pc
  rw [ofOct_take]
  show mix (xor a (ofOct (fillF (octs p)))) = _
  rw [ofOct_octs]
theorem fold_octs_inj {a p q : Blk} : fold a (octs p) = fold a (octs q) ↔ p = q := by
  rw [fold_octs, fold_octs, mix_inj, xor_injL]
/-- folding on -/
theorem foldN_drop (b : Blk) (L : List Int) (k : Nat) : ∀ n, foldN (foldN b L k) (L.drop (16 * k)) n = foldN b L (k + n)
  | 0 => rfl
  | n + 1 => by
    rw [foldN, foldN_drop b L k n, ← Nat.add_assoc, foldN]
    unfold pc
    rw [List.drop_drop, Nat.mul_add]
theorem foldN_take (b : Blk) (L : List Int) (k : Nat) : ∀ n, n ≤ k → foldN b (L.take (16 * k)) n = foldN b L n
  | 0, _ => rfl
  | n + 1, h => by
    rw [foldN, foldN, foldN_take b L k n (by omega)]
    congr 1
    unfold pc
    rw [List.drop_take, List.take_take, Nat.min_eq_left (by omega)]
theorem fold_parts (b : Blk) (L : List Int) (k : Nat) (h : 16 * k ≤ L.length) : fold (fold b (L.take (16 * k))) (L.drop (16 * k)) = fold b L := by
  unfold fold
  have e1 : pcs (L.take (16 * k)) = k := by unfold pcs; rw [List.length_take]; omega
  have e2 : k + pcs (L.drop (16 * k)) = pcs L := by unfold pcs; rw [List.length_drop]; omega
  rw [e1, foldN_take b L k k (Nat.le_refl _), foldN_drop, e2]
/-- zeros behind the last ones -/
theorem fillF_zeros (P : List Int) (n : Nat) (j : Nat) : fillF (P ++ List.replicate n 0) j = fillF P j := by
  unfold fillF
  rw [List.getElem?_append]
  by_cases h : j < P.length
  · rw [if_pos h]
  · rw [if_neg h, List.getElem?_eq_none (l := P) (by omega), List.getElem?_replicate]
    split <;> rfl
theorem pc_zeros (L : List Int) (n k : Nat) : ofOct (fillF (pc (L ++ List.replicate n 0) k)) = ofOct (fillF (pc L k)) := by
  unfold pc
  rw [ofOct_take, ofOct_take]
  apply ofOct_congr
  intro j _
  have e : ∀ M : List Int, fillF (M.drop (16 * k)) j = fillF M (16 * k + j) := fun M => by unfold fillF; rw [List.getElem?_drop]
  rw [e, e, fillF_zeros]
theorem foldN_zeros (b : Blk) (L : List Int) (n : Nat) : ∀ k, foldN b (L ++ List.replicate n 0) k = foldN b L k
  | 0 => rfl
  | k + 1 => by rw [foldN, foldN, foldN_zeros b L n k]; unfold step; rw [pc_zeros]
theorem fold_zeros (b : Blk) (L : List Int) (n : Nat) (h : pcs (L ++ List.replicate n 0) = pcs L) : fold b (L ++ List.replicate n 0) = fold b L := by
  unfold fold; rw [h, foldN_zeros]
end M
end Go.Proofs.Ytfedmkklpambgaa
