/-
  Plain mathematics of how the program learns: what is learnt, in order; what a term tells; which terms stand near a place; sorted lists. No condition.
-/
import Derived.Test.YthkkclhjpgkhaaaNK
namespace Go.Proofs.Ythkkclhjpgkhaaa
namespace M
/-- a list of places none of which is there twice -/
def Gd (n : Nat) (D : List Int) : Prop := D.Nodup ∧ ∀ x ∈ D, 0 ≤ x ∧ x < (n : Int)
theorem len_sub : ∀ {D L : List Int}, D.Nodup → (∀ x ∈ D, x ∈ L) → D.length ≤ L.length
  | [], _, _, _ => by simp
  | x :: D, L, hn, h => by
    rw [List.nodup_cons] at hn
    have h1 : x ∈ L := h x (by simp)
    have h2 := len_sub (D := D) (L := L.erase x) hn.2 fun y hy => (List.mem_erase_of_ne fun e => by rw [e] at hy; exact hn.1 hy).2 (h y (by simp [hy]))
    rw [List.length_erase_of_mem h1] at h2
    have : 0 < L.length := List.length_pos_of_mem h1
    rw [List.length_cons]; omega
theorem Gd.len {n : Nat} {D : List Int} (h : Gd n D) : D.length ≤ n := by
  have := len_sub (L := (List.range n).map fun j : Nat => (j : Int)) h.1 fun x hx => by
    have := h.2 x hx
    exact List.mem_map.2 ⟨x.toNat, List.mem_range.2 (by omega), by omega⟩
  simpa using this
theorem Gd.nil (n : Nat) : Gd n [] := ⟨by simp, by simp⟩
def lrn1 (D : List Int) (i : Int) : List Int := if i ∈ D then D else D ++ [i]
/-- what is learnt, place by place -/
def lrn (D L : List Int) : List Int := L.foldl lrn1 D
theorem lrn1_yes {D : List Int} {i : Int} (h : i ∈ D) : lrn1 D i = D := if_pos h
theorem lrn1_no {D : List Int} {i : Int} (h : i ∉ D) : lrn1 D i = D ++ [i] := if_neg h
theorem lrn_nil (D : List Int) : lrn D [] = D := rfl
theorem lrn_one (D : List Int) (i : Int) : lrn D [i] = lrn1 D i := rfl
theorem lrn_next (D L : List Int) (k : Nat) (x : Int) (h : L[k]? = some x) : lrn D (L.take (k + 1)) = lrn1 (lrn D (L.take k)) x := by
  unfold lrn
  obtain ⟨hk, e⟩ := List.getElem?_eq_some_iff.1 h
  rw [List.take_succ_eq_append_getElem hk, List.foldl_append, e]
  rfl
theorem Gd.lrn1 {n : Nat} {D : List Int} (h : Gd n D) {i : Int} (hi : 0 ≤ i ∧ i < (n : Int)) : Gd n (lrn1 D i) := by
  by_cases hm : i ∈ D
  · rw [lrn1_yes hm]; exact h
  · rw [lrn1_no hm]
    refine ⟨?_, fun x hx => ?_⟩
    · rw [List.nodup_append]
      exact ⟨h.1, by simp, fun a ha b hb => by simp at hb; subst hb; intro e; exact hm (e ▸ ha)⟩
    · rw [List.mem_append, List.mem_singleton] at hx
      rcases hx with hx | rfl
      · exact h.2 x hx
      · exact hi
theorem Gd.lrn {n : Nat} : ∀ {L D : List Int}, Gd n D → (∀ x ∈ L, 0 ≤ x ∧ x < (n : Int)) → Gd n (lrn D L)
  | [], _, h, _ => h
  | x :: L, D, h, hL => Gd.lrn (L := L) (h.lrn1 (hL x (by simp))) fun y hy => hL y (by simp [hy])
theorem lrn1_mem {D : List Int} {i x : Int} : x ∈ lrn1 D i ↔ x ∈ D ∨ x = i := by
  by_cases hm : i ∈ D
  · rw [lrn1_yes hm]
    exact ⟨.inl, fun h => h.elim id fun e => e ▸ hm⟩
  · rw [lrn1_no hm, List.mem_append, List.mem_singleton]
theorem lrn_mem : ∀ {L D : List Int} {x : Int}, x ∈ lrn D L ↔ x ∈ D ∨ x ∈ L
  | [], D, x => by simp [lrn]
  | y :: L, D, x => by
    have := lrn_mem (L := L) (D := lrn1 D y) (x := x)
    rw [show lrn D (y :: L) = lrn (lrn1 D y) L from rfl, this, lrn1_mem, List.mem_cons, or_assoc]
theorem lrn1_more (D : List Int) (i : Int) : ∃ E, lrn1 D i = D ++ E := by
  by_cases hm : i ∈ D
  · exact ⟨[], by rw [lrn1_yes hm, List.append_nil]⟩
  · exact ⟨[i], lrn1_no hm⟩
theorem lrn_more : ∀ (L D : List Int), ∃ E, lrn D L = D ++ E
  | [], D => ⟨[], by simp [lrn]⟩
  | y :: L, D => by
    obtain ⟨E1, h1⟩ := lrn1_more D y
    obtain ⟨E2, h2⟩ := lrn_more L (lrn1 D y)
    exact ⟨E1 ++ E2, by rw [show lrn D (y :: L) = lrn (lrn1 D y) L from rfl, h2, h1, List.append_assoc]⟩
/-- a chain with one more -/
theorem Chn.snoc {A : List Tm} {H D : List Int} (h : Chn A H D) {x : Int} (hx : x ∉ D) (hf : x ∈ H ∨ Fol A (· ∈ D) x) : Chn A H (D ++ [x]) := by
  intro k hk
  rw [List.length_append, List.length_singleton] at hk
  rcases Nat.lt_or_ge k D.length with hl | hl
  · rw [List.getElem?_append_left hl, List.take_append_of_le_length (by omega)]
    exact h k hl
  · obtain rfl : k = D.length := by omega
    rw [List.getElem?_append_right (Nat.le_refl _), Nat.sub_self, List.take_append_of_le_length (Nat.le_refl _), List.take_length]
    exact ⟨hx, hf⟩
theorem Chn.lrn {A : List Tm} {H : List Int} : ∀ {L D : List Int}, Chn A H D → (∀ x ∈ L, x ∈ H ∨ Fol A (· ∈ D) x) → Chn A H (lrn D L)
  | [], _, h, _ => h
  | x :: L, D, h, hL => by
    refine Chn.lrn (L := L) (D := lrn1 D x) ?_ fun y hy => ?_
    · by_cases hm : x ∈ D
      · rw [lrn1_yes hm]; exact h
      · rw [lrn1_no hm]; exact h.snoc hm (hL x (by simp))
    · exact (hL y (by simp [hy])).imp id fun f => f.mono fun z hz => lrn1_mem.2 (.inl hz)
theorem Chn.nil (A : List Tm) (H : List Int) : Chn A H [] := fun k hk => by simp at hk
/-- what the term at a place tells -/
def tell (A : List Tm) (D : List Int) (k : Nat) : List Int :=
  if (at_ A k).1 = 1 ∨ (at_ A k).2.1 ∉ D then [] else if (at_ A k).1 ≠ 5 then [(k : Int)] else (if (at_ A k).2.2 ∈ D then [(k : Int)] else []) ++ (if (k : Int) ∈ D then [(at_ A k).2.2] else [])
theorem tell_no {A : List Tm} {D : List Int} {k : Nat} (h : (at_ A k).1 = 1 ∨ (at_ A k).2.1 ∉ D) : tell A D k = [] := if_pos h
theorem tell_one {A : List Tm} {D : List Int} {k : Nat} (h1 : (at_ A k).1 ≠ 1) (h2 : (at_ A k).2.1 ∈ D) (h5 : (at_ A k).1 ≠ 5) : tell A D k = [(k : Int)] := by
  unfold tell; rw [if_neg (by simp [h1, h2]), if_pos h5]
theorem tell_two {A : List Tm} {D : List Int} {k : Nat} (h2 : (at_ A k).2.1 ∈ D) (h5 : (at_ A k).1 = 5) : tell A D k = (if (at_ A k).2.2 ∈ D then [(k : Int)] else []) ++ (if (k : Int) ∈ D then [(at_ A k).2.2] else []) := by
  unfold tell; rw [if_neg (by simp [h5, h2]), if_neg (by simp [h5])]
theorem tell_len (A : List Tm) (D : List Int) (k : Nat) : (tell A D k).length ≤ 2 := by
  unfold tell; split
  · simp
  · split
    · simp
    · split <;> split <;> simp
theorem tell_mono {A : List Tm} {D D' : List Int} (h : ∀ x ∈ D, x ∈ D') {k : Nat} {x : Int} (hx : x ∈ tell A D k) : x ∈ tell A D' k := by
  by_cases h1 : (at_ A k).1 = 1 ∨ (at_ A k).2.1 ∉ D
  · rw [tell_no h1] at hx; simp at hx
  · have h1' : (at_ A k).1 ≠ 1 := fun e => h1 (.inl e)
    have h2 : (at_ A k).2.1 ∈ D := Classical.byContradiction fun e => h1 (.inr e)
    by_cases h5 : (at_ A k).1 = 5
    · rw [tell_two h2 h5] at hx
      rw [tell_two (h _ h2) h5]
      rw [List.mem_append] at hx ⊢
      rcases hx with hx | hx
      · left
        split at hx
        · rename_i hb; rw [if_pos (h _ hb)]; exact hx
        · simp at hx
      · right
        split at hx
        · rename_i hb; rw [if_pos (h _ hb)]; exact hx
        · simp at hx
    · rw [tell_one h1' h2 h5] at hx
      rw [tell_one h1' (h _ h2) h5]; exact hx
theorem tell_fol {A : List Tm} (hA : Ok A) {D : List Int} {k : Nat} (hk : k < A.length) {x : Int} (hx : x ∈ tell A D k) : Fol A (· ∈ D) x ∧ Pl A x := by
  have hm := (hA.2 k hk).1
  by_cases h1 : (at_ A k).1 = 1 ∨ (at_ A k).2.1 ∉ D
  · rw [tell_no h1] at hx; simp at hx
  · have h1' : (at_ A k).1 ≠ 1 := fun e => h1 (.inl e)
    have h2 : (at_ A k).2.1 ∈ D := Classical.byContradiction fun e => h1 (.inr e)
    by_cases h5 : (at_ A k).1 = 5
    · rw [tell_two h2 h5, List.mem_append] at hx
      rcases hx with hx | hx
      · split at hx
        · rename_i hb
          rw [List.mem_singleton] at hx; subst hx
          exact ⟨.inr (.inl ⟨h5, h2, hb⟩), by omega, by omega⟩
        · simp at hx
      · split at hx
        · rename_i hb
          rw [List.mem_singleton] at hx; subst hx
          refine ⟨.inr (.inr ⟨k, hb, h5, rfl, h2⟩), ?_⟩
          rcases may_kind hm with ⟨q, _⟩ | ⟨q, _⟩ | ⟨_, _, _, q4, q5⟩
          · omega
          · omega
          · exact ⟨q4, by omega⟩
        · simp at hx
    · rw [tell_one h1' h2 h5, List.mem_singleton] at hx
      subst hx
      refine ⟨.inl ⟨?_, h2⟩, by omega, by omega⟩
      rcases may_kind hm with ⟨q, _⟩ | ⟨q, _⟩ | ⟨q, _⟩
      · exact absurd q h1'
      · exact q
      · exact absurd q h5
/-- what follows from one more is told by a term near it -/
theorem fol_near {A : List Tm} {S : List Int} {j : Int} (hS : ∀ x ∈ S ++ [j], Pl A x) {x : Int} (hp : Pl A x) (h : Fol A (· ∈ S ++ [j]) x) :
    Fol A (· ∈ S) x ∨ ∃ k : Nat, k < A.length ∧ j ∈ (k : Int) :: parts (at_ A k) ∧ x ∈ tell A (S ++ [j]) k := by
  have spl : ∀ {y : Int}, y ∈ S ++ [j] → y ∈ S ∨ j = y := fun {y} hy => by rw [List.mem_append, List.mem_singleton] at hy; exact hy.imp id Eq.symm
  obtain ⟨m, rfl⟩ : ∃ m : Nat, x = m := ⟨x.toNat, by have := hp.1; omega⟩
  have hm : m < A.length := by have := hp.2; omega
  rcases h with ⟨k1, b⟩ | ⟨k1, b, c⟩ | ⟨k, a, k1, e, b⟩
  · replace k1 : (at_ A m).1 = 2 ∨ (at_ A m).1 = 3 ∨ (at_ A m).1 = 4 := k1
    replace b : (at_ A m).2.1 ∈ S ++ [j] := b
    rcases spl b with b' | b'
    · exact .inl (.inl ⟨k1, b'⟩)
    · refine .inr ⟨m, hm, ?_, ?_⟩
      · rw [parts_1 k1, b']; simp
      · rw [tell_one (by omega) b (by omega)]; simp
  · replace k1 : (at_ A m).1 = 5 := k1
    replace b : (at_ A m).2.1 ∈ S ++ [j] := b
    replace c : (at_ A m).2.2 ∈ S ++ [j] := c
    have ht : (m : Int) ∈ tell A (S ++ [j]) m := by rw [tell_two b k1, if_pos c]; simp
    rcases spl b with b' | b'
    · rcases spl c with c' | c'
      · exact .inl (.inr (.inl ⟨k1, b', c'⟩))
      · exact .inr ⟨m, hm, by rw [parts_2 k1, c']; simp, ht⟩
    · exact .inr ⟨m, hm, by rw [parts_2 k1, b']; simp, ht⟩
  · have hk := hS k a
    obtain ⟨q, rfl⟩ : ∃ q : Nat, k = q := ⟨k.toNat, by have := hk.1; omega⟩
    have hq : q < A.length := by have := hk.2; omega
    replace k1 : (at_ A q).1 = 5 := k1
    replace b : (at_ A q).2.1 ∈ S ++ [j] := b
    replace e : (at_ A q).2.2 = m := e
    have ht : (m : Int) ∈ tell A (S ++ [j]) q := by rw [tell_two b k1, if_pos a, e]; simp
    rcases spl a with a' | a'
    · rcases spl b with b' | b'
      · exact .inl (.inr (.inr ⟨q, a', k1, e, b'⟩))
      · exact .inr ⟨q, hq, by rw [parts_2 k1, b']; simp, ht⟩
    · exact .inr ⟨q, hq, by rw [a']; simp, ht⟩
theorem fol_tell {A : List Tm} {D : List Int} (hD : ∀ x ∈ D, Pl A x) {x : Int} (hp : Pl A x) (h : Fol A (· ∈ D) x) : ∃ k : Nat, k < A.length ∧ x ∈ (k : Int) :: parts (at_ A k) ∧ x ∈ tell A D k := by
  obtain ⟨m, rfl⟩ : ∃ m : Nat, x = m := ⟨x.toNat, by have := hp.1; omega⟩
  have hm : m < A.length := by have := hp.2; omega
  rcases h with ⟨k1, b⟩ | ⟨k1, b, c⟩ | ⟨k, a, k1, e, b⟩
  · replace k1 : (at_ A m).1 = 2 ∨ (at_ A m).1 = 3 ∨ (at_ A m).1 = 4 := k1
    replace b : (at_ A m).2.1 ∈ D := b
    exact ⟨m, hm, by simp, by rw [tell_one (by omega) b (by omega)]; simp⟩
  · replace k1 : (at_ A m).1 = 5 := k1
    replace b : (at_ A m).2.1 ∈ D := b
    replace c : (at_ A m).2.2 ∈ D := c
    exact ⟨m, hm, by simp, by rw [tell_two b k1, if_pos c]; simp⟩
  · have hk := hD k a
    obtain ⟨q, rfl⟩ : ∃ q : Nat, k = q := ⟨k.toNat, by have := hk.1; omega⟩
    have hq : q < A.length := by have := hk.2; omega
    replace k1 : (at_ A q).1 = 5 := k1
    replace b : (at_ A q).2.1 ∈ D := b
    replace e : (at_ A q).2.2 = m := e
    exact ⟨q, hq, by rw [parts_2 k1, e]; simp, by rw [tell_two b k1, if_pos a, e]; simp⟩
/-- one more at a place -/
def app1 (F : Nat → List Int) (p : Nat) (k : Int) : Nat → List Int := fun j => if j = p then F j ++ [k] else F j
/-- those near each place, of the first so many terms -/
def nrF (A : List Tm) : Nat → Nat → List Int
  | 0 => fun _ => []
  | k + 1 => ((k : Int) :: parts (at_ A k)).foldl (fun F p => app1 F p.toNat k) (nrF A k)
theorem fold_app_sub (k : Int) : ∀ (P : List Int) (F : Nat → List Int) (j : Nat) (x : Int), x ∈ F j → x ∈ P.foldl (fun F p => app1 F p.toNat k) F j
  | [], _, _, _, h => h
  | p :: P, F, j, x, h => fold_app_sub k P _ j x (by unfold app1; dsimp only; split <;> simp [h])
theorem fold_app_mem (k : Int) : ∀ (P : List Int) (F : Nat → List Int) (j : Nat), (j : Int) ∈ P → k ∈ P.foldl (fun F p => app1 F p.toNat k) F j
  | p :: P, F, j, h => by
    rw [List.mem_cons] at h
    rcases h with h | h
    · refine fold_app_sub k P _ j k ?_
      unfold app1
      dsimp only
      rw [if_pos (by omega)]; simp
    · exact fold_app_mem k P _ j h
theorem fold_app_or (k : Int) : ∀ (P : List Int) (F : Nat → List Int) (j : Nat) (x : Int), x ∈ P.foldl (fun F p => app1 F p.toNat k) F j → x ∈ F j ∨ x = k
  | [], _, _, _, h => .inl h
  | p :: P, F, j, x, h => by
    rcases fold_app_or k P _ j x h with h | h
    · unfold app1 at h
      dsimp only at h
      split at h
      · rw [List.mem_append, List.mem_singleton] at h; exact h
      · exact .inl h
    · exact .inr h
theorem fold_app_len (k : Int) : ∀ (P : List Int) (F : Nat → List Int) (j : Nat), (P.foldl (fun F p => app1 F p.toNat k) F j).length ≤ (F j).length + P.length
  | [], _, _ => by simp
  | p :: P, F, j => by
    have := fold_app_len k P (app1 F p.toNat k) j
    have h2 : (app1 F p.toNat k j).length ≤ (F j).length + 1 := by unfold app1; split <;> simp
    rw [List.foldl_cons, List.length_cons]; omega
theorem nrF_mem (A : List Tm) {k j : Nat} (hj : (j : Int) ∈ (k : Int) :: parts (at_ A k)) : ∀ n, k < n → (k : Int) ∈ nrF A n j
  | n + 1, h => by
    rcases Nat.lt_or_ge k n with h1 | h1
    · exact fold_app_sub n _ _ j k (nrF_mem A hj n h1)
    · obtain rfl : k = n := by omega
      exact fold_app_mem k _ _ j hj
theorem nrF_lt (A : List Tm) : ∀ (n j : Nat) (x : Int), x ∈ nrF A n j → 0 ≤ x ∧ x < (n : Int)
  | 0, j, x, h => by simp [nrF] at h
  | n + 1, j, x, h => by
    rcases fold_app_or n _ _ j x h with h | h
    · have := nrF_lt A n j x h; omega
    · omega
theorem parts_le2 (t : Tm) : (parts t).length ≤ 2 := by unfold parts; split <;> (try split) <;> simp
theorem nrF_len (A : List Tm) : ∀ (n j : Nat), (nrF A n j).length ≤ 3 * n
  | 0, j => by simp [nrF]
  | n + 1, j => by
    have h1 := fold_app_len n ((n : Int) :: parts (at_ A n)) (nrF A n) j
    have h2 := nrF_len A n j
    have h3 := parts_le2 (at_ A n)
    rw [List.length_cons] at h1
    show (((n : Int) :: parts (at_ A n)).foldl (fun F p => app1 F p.toNat n) (nrF A n) j).length ≤ _
    omega
/-- two rising lists of the same are one -/
theorem rising_ext : ∀ {L M : List Int}, L.Pairwise (· < ·) → M.Pairwise (· < ·) → (∀ x, x ∈ L ↔ x ∈ M) → L = M
  | [], [], _, _, _ => rfl
  | [], y :: M, _, _, h => absurd ((h y).2 (by simp)) (by simp)
  | x :: L, [], _, _, h => absurd ((h x).1 (by simp)) (by simp)
  | x :: L, y :: M, h1, h2, h => by
    rw [List.pairwise_cons] at h1 h2
    have hxy : x = y := by
      rcases List.mem_cons.1 ((h x).1 (by simp)) with e | hx
      · exact e
      · rcases List.mem_cons.1 ((h y).2 (by simp)) with e | hy
        · exact e.symm
        · have := h1.1 y hy; have := h2.1 x hx; omega
    subst hxy
    rw [rising_ext h1.2 h2.2 fun z => ⟨fun hz => ?_, fun hz => ?_⟩]
    · rcases List.mem_cons.1 ((h z).1 (by simp [hz])) with e | hz'
      · have := h1.1 z hz; omega
      · exact hz'
    · rcases List.mem_cons.1 ((h z).2 (by simp [hz])) with e | hz'
      · have := h2.1 z hz; omega
      · exact hz'
theorem sort_out {f : Nat → Bool} {n : Nat} {D : List Int} (hD : D.Nodup) (h : ∀ x, x ∈ D ↔ x ∈ outL f n) : D.mergeSort (fun x y => decide (x ≤ y)) = outL f n := by
  have hp := List.mergeSort_perm D (fun x y => decide (x ≤ y))
  refine rising_ext ?_ (outL_rising f n) fun x => (hp.mem_iff).trans (h x)
  have hs := List.pairwise_mergeSort (le := fun x y : Int => decide (x ≤ y)) (fun a b c h1 h2 => by simp at h1 h2 ⊢; omega) (fun a b => by simp; omega) D
  have hn : (D.mergeSort (fun x y => decide (x ≤ y))).Pairwise (· ≠ ·) := hp.nodup_iff.2 hD
  refine (hs.and hn).imp fun {a b} h => ?_
  have h1 := of_decide_eq_true h.1
  have h2 := h.2
  omega
/-- a list of which what follows from it is in it, and all of which is in a chain, is what is known -/
theorem known_of {A : List Tm} {H D : List Int} (hD : ∀ x ∈ D, Pl A x) (hc : Chn A H D) (h0 : ∀ h ∈ H, h ∈ D) (h1 : ∀ j, Pl A j → Fol A (· ∈ D) j → j ∈ D) (x : Int) : x ∈ D ↔ Kn A H x := Kn.eq h0 h1 (fun _ hx => hc.all hD hx) x
end M
end Go.Proofs.Ythkkclhjpgkhaaa
