/-
  Plain mathematics of how the program learns: what is learnt, in order; what a term tells; which terms stand near a place; sorted lists. No condition.
-/
import Derived.Test.YtljaahheofikpaaZT5
import Derived.Test.YtljaahheofikpaaZT8
import Derived.Test.YtljaahheofikpaaZU12
import Derived.Test.YtljaahheofikpaaZU15
namespace Go.Proofs.Ytljaahheofikpaa
namespace M
/-- a list of places none of which is there twice -/
def Gd (n : Nat) (D : List Int) : Prop := D.Nodup ∧ ∀ x ∈ D, 0 ≤ x ∧ x < (n : Int)
theorem len_sub : ∀ {D L : List Int}, D.Nodup → (∀ x ∈ D, x ∈ L) → D.length ≤ L.length
  | [], _, _, _ => by simp
  | x :: D, L, hn, h => by
    rw [List.nodup_cons] at hn
    have h1 : x ∈ L := h x (by simp)
    have h2 := len_sub (D := D) (L := L.erase x) hn.2 fun y hy => (List.mem_erase_of_ne fun e => by rw [e] at hy; exact hn.1 hy).2 (h y (by simp [hy]))
    rw [List.length_erase_of_mem h1] at h2
    have : 0 < L.length := List.length_pos_of_mem h1
    rw [List.length_cons]; omega
theorem Gd.len {n : Nat} {D : List Int} (h : Gd n D) : D.length ≤ n := by
  have := len_sub (L := (List.range n).map fun j : Nat => (j : Int)) h.1 fun x hx => by
    have := h.2 x hx
    exact List.mem_map.2 ⟨x.toNat, List.mem_range.2 (by omega), by omega⟩
  simpa using this
theorem Gd.nil (n : Nat) : Gd n [] := ⟨by simp, by simp⟩
def lrn1 (D : List Int) (i : Int) : List Int := if i ∈ D then D else D ++ [i]
/-- what is learnt, place by place -/
def lrn (D L : List Int) : List Int := L.foldl lrn1 D
theorem lrn1_yes {D : List Int} {i : Int} (h : i ∈ D) : lrn1 D i = D := if_pos h
theorem lrn1_no {D : List Int} {i : Int} (h : i ∉ D) : lrn1 D i = D ++ [i] := if_neg h
theorem lrn_nil (D : List Int) : lrn D [] = D := rfl
theorem lrn_one (D : List Int) (i : Int) : lrn D [i] = lrn1 D i := rfl
theorem lrn_next (D L : List Int) (k : Nat) (x : Int) (h : L[k]? = some x) : lrn D (L.take (k + 1)) = lrn1 (lrn D (L.take k)) x := by
  unfold lrn
  obtain ⟨hk, e⟩ := List.getElem?_eq_some_iff.1 h
  rw [List.take_succ_eq_append_getElem hk, List.foldl_append, e]
  rfl
theorem Gd.lrn1 {n : Nat} {D : List Int} (h : Gd n D) {i : Int} (hi : 0 ≤ i ∧ i < (n : Int)) : Gd n (lrn1 D i) := by
  by_cases hm : i ∈ D
  · rw [lrn1_yes hm]; exact h
  · rw [lrn1_no hm]
    refine ⟨?_, fun x hx => ?_⟩
    · rw [List.nodup_append]
      exact ⟨h.1, by simp, fun a ha b hb => by simp at hb; subst hb; intro e; exact hm (e ▸ ha)⟩
    · rw [List.mem_append, List.mem_singleton] at hx
      rcases hx with hx | rfl
      · exact h.2 x hx
      · exact hi
theorem Gd.lrn {n : Nat} : ∀ {L D : List Int}, Gd n D → (∀ x ∈ L, 0 ≤ x ∧ x < (n : Int)) → Gd n (lrn D L)
  | [], _, h, _ => h
  | x :: L, D, h, hL => Gd.lrn (L := L) (h.lrn1 (hL x (by simp))) fun y hy => hL y (by simp [hy])
theorem lrn1_mem {D : List Int} {i x : Int} : x ∈ lrn1 D i ↔ x ∈ D ∨ x = i := by
  by_cases hm : i ∈ D
  · rw [lrn1_yes hm]
    exact ⟨.inl, fun h => h.elim id fun e => e ▸ hm⟩
  · rw [lrn1_no hm, List.mem_append, List.mem_singleton]
theorem lrn_mem : ∀ {L D : List Int} {x : Int}, x ∈ lrn D L ↔ x ∈ D ∨ x ∈ L
  | [], D, x => by simp [lrn]
  | y :: L, D, x => by
    have := lrn_mem (L := L) (D := lrn1 D y) (x := x)
    rw [show lrn D (y :: L) = lrn (lrn1 D y) L from rfl, this, lrn1_mem, List.mem_cons, or_assoc]
theorem lrn1_more (D : List Int) (i : Int) : ∃ E, lrn1 D i = D ++ E := by
  by_cases hm : i ∈ D
  · exact ⟨[], by rw [lrn1_yes hm, List.append_nil]⟩
  · exact ⟨[i], lrn1_no hm⟩
theorem lrn_more : ∀ (L D : List Int), ∃ E, lrn D L = D ++ E
  | [], D => ⟨[], by simp [lrn]⟩
  | y :: L, D => by
    obtain ⟨E1, h1⟩ := lrn1_more D y
    obtain ⟨E2, h2⟩ := lrn_more L (lrn1 D y)
    exact ⟨E1 ++ E2, by rw [show lrn D (y :: L) = lrn (lrn1 D y) L from rfl, h2, h1, List.append_assoc]⟩
/-- a chain with one more -/
theorem Chn.snoc {A : List Tm} {H D : List Int} (h : Chn A H D) {x : Int} (hx : x ∉ D) (hf : x ∈ H ∨ Fol A (· ∈ D) x) : Chn A H (D ++ [x]) := by
  intro k hk
  rw [List.length_append, List.length_singleton] at hk
  rcases Nat.lt_or_ge k D.length with hl | hl
  · rw [List.getElem?_append_left hl, List.take_append_of_le_length (by omega)]
    exact h k hl
  · obtain rfl : k = D.length := by omega
    rw [List.getElem?_append_right (Nat.le_refl _), Nat.sub_self, List.take_append_of_le_length (Nat.le_refl _), List.take_length]
    exact ⟨hx, hf⟩
theorem Chn.lrn {A : List Tm} {H : List Int} : ∀ {L D : List Int}, Chn A H D → (∀ x ∈ L, x ∈ H ∨ Fol A (· ∈ D) x) → Chn A H (lrn D L)
  | [], _, h, _ => h
  | x :: L, D, h, hL => by
    refine Chn.lrn (L := L) (D := lrn1 D x) ?_ fun y hy => ?_
    · by_cases hm : x ∈ D
      · rw [lrn1_yes hm]; exact h
      · rw [lrn1_no hm]; exact h.snoc hm (hL x (by simp))
    · exact (hL y (by simp [hy])).imp id fun f => f.mono fun z hz => lrn1_mem.2 (.inl hz)
theorem Chn.nil (A : List Tm) (H : List Int) : Chn A H [] := fun k hk => by simp at hk
/-- what the term at a place tells -/
def tell (A : List Tm) (D : List Int) (k : Nat) : List Int :=
  if (at_ A k).1 = 1 ∨ (at_ A k).2.1 ∉ D then [] else if (at_ A k).1 ≠ 5 then [(k : Int)] else (if (at_ A k).2.2 ∈ D then [(k : Int)] else []) ++ (if (k : Int) ∈ D then [(at_ A k).2.2] else [])
theorem tell_no {A : List Tm} {D : List Int} {k : Nat} (h : (at_ A k).1 = 1 ∨ (at_ A k).2.1 ∉ D) : tell A D k = [] := if_pos h
theorem tell_one {A : List Tm} {D : List Int} {k : Nat} (h1 : (at_ A k).1 ≠ 1) (h2 : (at_ A k).2.1 ∈ D) (h5 : (at_ A k).1 ≠ 5) : tell A D k = [(k : Int)] := by
  unfold tell; rw [if_neg (by simp [h1, h2]), if_pos h5]
theorem tell_two {A : List Tm} {D : List Int} {k : Nat} (h2 : (at_ A k).2.1 ∈ D) (h5 : (at_ A k).1 = 5) : tell A D k = (if (at_ A k).2.2 ∈ D then [(k : Int)] else []) ++ (if (k : Int) ∈ D then [(at_ A k).2.2] else []) := by
  unfold tell; rw [if_neg (by simp [h5, h2]), if_neg (by simp [h5])]
theorem tell_len (A : List Tm) (D : List Int) (k : Nat) : (tell A D k).length ≤ 2 := by
  unfold tell; split
  · simp
  · split
    · simp
    · split <;> split <;> simp
theorem tell_mono {A : List Tm} {D D' : List Int} (h : ∀ x ∈ D, x ∈ D') {k : Nat} {x : Int} (hx : x ∈ tell A D k) : x ∈ tell A D' k := by
  by_cases h1 : (at_ A k).1 = 1 ∨ (at_ A k).2.1 ∉ D
  · rw [tell_no h1] at hx; simp at hx
  · have h1' : (at_ A k).1 ≠ 1 := fun e => h1 (.inl e)
    have h2 : (at_ A k).2.1 ∈ D := Classical.byContradiction fun e => h1 (.inr e)
    by_cases h5 : (at_ A k).1 = 5
    · rw [tell_two h2 h5] at hx
      rw [tell_two (h _ h2) h5]
      rw [List.mem_append] at hx ⊢
      rcases hx with hx | hx
      · left
        split at hx
        · rename_i hb; rw [if_pos (h _ hb)]; exact hx
        · simp at hx
      · right
        split at hx
        · rename_i hb; rw [if_pos (h _ hb)]; exact hx
        · simp at hx
    · rw [tell_one h1' h2 h5] at hx
      rw [tell_one h1' (h _ h2) h5]; exact hx
theorem tell_fol {A : List Tm} (hA : Ok A) {D : List Int} {k : Nat} (hk : k < A.length) {x : Int} (hx : x ∈ tell A D k) : Fol A (· ∈ D) x ∧ Pl A x := by
  have hm := (hA.2 k hk).1
  by_cases h1 : (at_ A k).1 = 1 ∨ (at_ A k).2.1 ∉ D
  · rw [tell_no h1] at hx; simp at hx
  · have h1' : (at_ A k).1 ≠ 1 := fun e => h1 (.inl e)
    have h2 : (at_ A k).2.1 ∈ D := Classical.byContradiction fun e => h1 (.inr e)
    by_cases h5 : (at_ A k).1 = 5
    · rw [tell_two h2 h5, List.mem_append] at hx
      rcases hx with hx | hx
      · split at hx
        · rename_i hb
          rw [List.mem_singleton] at hx; subst hx
          exact ⟨.inr (.inl ⟨h5, h2, hb⟩), by omega, by omega⟩
        · simp at hx
      · split at hx
        · rename_i hb
          rw [List.mem_singleton] at hx; subst hx
          refine ⟨.inr (.inr ⟨k, hb, h5, rfl, h2⟩), ?_⟩
          rcases may_kind hm with ⟨q, _⟩ | ⟨q, _⟩ | ⟨_, _, _, q4, q5⟩
          · omega
          · omega
          · exact ⟨q4, by omega⟩
        · simp at hx
    · rw [tell_one h1' h2 h5, List.mem_singleton] at hx
      subst hx
      refine ⟨.inl ⟨?_, h2⟩, by omega, by omega⟩
      rcases may_kind hm with ⟨q, _⟩ | ⟨q, _⟩ | ⟨q, _⟩
      · exact absurd q h1'
      · exact q
      · exact absurd q h5
/-- what follows from one more is told by a term near it -/
theorem fol_near {A : List Tm} {S : List Int} {j : Int} (hS : ∀ x ∈ S ++ [j], Pl A x) {x : Int} (hp : Pl A x) (h : Fol A (· ∈ S ++ [j]) x) :
    Fol A (· ∈ S) x ∨ ∃ k : Nat, k < A.length ∧ j ∈ (k : Int) :: parts (at_ A k) ∧ x ∈ tell A (S ++ [j]) k := by
  have spl : ∀ {y : Int}, y ∈ S ++ [j] → y ∈ S ∨ j = y := fun {y} hy => by rw [List.mem_append, List.mem_singleton] at hy; exact hy.imp id Eq.symm
  obtain ⟨m, rfl⟩ : ∃ m : Nat, x = m := ⟨x.toNat, by have := hp.1; omega⟩
  have hm : m < A.length := by have := hp.2; omega
  rcases h with ⟨k1, b⟩ | ⟨k1, b, c⟩ | ⟨k, a, k1, e, b⟩
  · replace k1 : (at_ A m).1 = 2 ∨ (at_ A m).1 = 3 ∨ (at_ A m).1 = 4 := k1
    replace b : (at_ A m).2.1 ∈ S ++ [j] := b
    rcases spl b with b' | b'
    · exact .inl (.inl ⟨k1, b'⟩)
    · refine .inr ⟨m, hm, ?_, ?_⟩
      · rw [parts_1 k1, b']; simp
      · rw [tell_one (by omega) b (by omega)]; simp
  · replace k1 : (at_ A m).1 = 5 := k1
    replace b : (at_ A m).2.1 ∈ S ++ [j] := b
    replace c : (at_ A m).2.2 ∈ S ++ [j] := c
    have ht : (m : Int) ∈ tell A (S ++ [j]) m := by rw [tell_two b k1, if_pos c]; simp
    rcases spl b with b' | b'
    · rcases spl c with c' | c'
      · exact .inl (.inr (.inl ⟨k1, b', c'⟩))
      · exact .inr ⟨m, hm, by rw [parts_2 k1, c']; simp, ht⟩
    · exact .inr ⟨m, hm, by rw [parts_2 k1, b']; simp, ht⟩
  · have hk := hS k a
    obtain ⟨q, rfl⟩ : ∃ q : Nat, k = q := ⟨k.toNat, by have := hk.1; omega⟩
    have hq : q < A.length := by have := hk.2; omega
    replace k1 : (at_ A q).1 = 5 := k1
    replace b : (at_ A q).2.1 ∈ S ++ [j] := b
    replace e : (at_ A q).2.2 = m := e
    have ht : (m : Int) ∈ tell A (S ++ [j]) q := by rw [tell_two b k1, if_pos a, e]; simp
    rcases spl a with a' | a'
    · rcases spl b with b' | b'
      · exact .inl (.inr (.inr ⟨q, a', k1, e, b'⟩))
      · exact .inr ⟨q, hq, by rw [parts_2 k1, b']; simp, ht⟩
    · exact .inr ⟨q, hq, by rw [a']; simp, ht⟩
theorem fol_tell {A : List Tm} {D : List Int} (hD : ∀ x ∈ D, Pl A x) {x : Int} (hp : Pl A x) (h : Fol A (· ∈ D) x) : ∃ k : Nat, k < A.length ∧ x ∈ (k : Int) :: parts (at_ A k) ∧ x ∈ tell A D k := by
  obtain ⟨m, rfl⟩ : ∃ m : Nat, x = m := ⟨x.toNat, by have := hp.1; omega⟩
  have hm : m < A.length := by have := hp.2; omega
  rcases h with ⟨k1, b⟩ | ⟨k1, b, c⟩ | ⟨k, a, k1, e, b⟩
  · replace k1 : (at_ A m).1 = 2 ∨ (at_ A m).1 = 3 ∨ (at_ A m).1 = 4 := k1
    replace b : (at_ A m).2.1 ∈ D := b
    exact ⟨m, hm, by simp, by rw [tell_one (by omega) b (by omega)]; simp⟩
  · replace k1 : (at_ A m).1 = 5 := k1
    replace b : (at_ A m).2.1 ∈ D := b
    replace c : (at_ A m).2.2 ∈ D := c
    exact ⟨m, hm, by simp, by rw [tell_two b k1, if_pos c]; simp⟩
  · have hk := hD k a
    obtain ⟨q, rfl⟩ : ∃ q : Nat, k = q := ⟨k.toNat, by have := hk.1; omega⟩
    have hq : q < A.length := by have := hk.2; omega
    replace k1 : (at_ A q).1 = 5 := k1
    replace b : (at_ A q).2.1 ∈ D := b
    replace e : (at_ A q).2.2 = m := e
    exact ⟨q, hq, by rw [parts_2 k1, e]; simp, by rw [tell_two b k1, if_pos a, e]; simp⟩
/-- one more at a place -/
def app1 (F : Nat → List Int) (p : Nat) (k : Int) : Nat → List Int := fun j => if j = p then F j ++ [k] else F j
/-- those near each place, of the first so many terms -/
def nrF (A : List Tm) : Nat → Nat → List Int
  | 0 => fun _ => []
  | k + 1 => ((k : Int) :: parts (at_ A k)).foldl (fun F p => app1 F p.toNat k) (nrF A k)
theorem fold_app_sub (k : Int) : ∀ (P : List Int) (F : Nat → List Int) (j : Nat) (x : Int), x ∈ F j → x ∈ P.foldl (fun F p => app1 F p.toNat k) F j
  | [], _, _, _, h => h
  | p :: P, F, j, x, h => fold_app_sub k P _ j x (by unfold app1; dsimp only; split <;> simp [h])
theorem fold_app_mem (k : Int) : ∀ (P : List Int) (F : Nat → List Int) (j : Nat), (j : Int) ∈ P → k ∈ P.foldl (fun F p => app1 F p.toNat k) F j
  | p :: P, F, j, h => by
    rw [List.mem_cons] at h
    rcases h with h | h
    · refine fold_app_sub k P _ j k ?_
      unfold app1
      dsimp only
      rw [if_pos (by omega)]; simp
    · exact fold_app_mem k P _ j h
theorem fold_app_or (k : Int) : ∀ (P : List Int) (F : Nat → List Int) (j : Nat) (x : Int), x ∈ P.foldl (fun F p => app1 F p.toNat k) F j → x ∈ F j ∨ x = k
  | [], _, _, _, h => .inl h
  | p :: P, F, j, x, h => by
    rcases fold_app_or k P _ j x h with h | h
    · unfold app1 at h
      dsimp only at h
      split at h
      · rw [List.mem_append, List.mem_singleton] at h; exact h
      · exact .inl h
    · exact .inr h
theorem fold_app_len (k : Int) : ∀ (P : List Int) (F : Nat → List Int) (j : Nat), (P.foldl (fun F p => app1 F p.toNat k) F j).length ≤ (F j).length + P.length
  | [], _, _ => by simp
  | p :: P, F, j => by
    have := fold_app_len k P (app1 F p.toNat k) j
    have h2 : (app1 F p.toNat k j).length ≤ (F j).length + 1 := by unfold app1; split <;> simp
    rw [List.foldl_cons, List.length_cons]; omega
theorem nrF_mem (A : List Tm) {k j : Nat} (hj : (j : Int) ∈ (k : Int) :: parts (at_ A k)) : ∀ n, k < n → (k : Int) ∈ nrF A n j
  | n + 1, h => by
    rcases Nat.lt_or_ge k n with h1 | h1
    · exact fold_app_sub n _ _ j k (nrF_mem A hj n h1)
    · obtain rfl : k = n := by omega
      exact fold_app_mem k _ _ j hj
theorem nrF_lt (A : List Tm) : ∀ (n j : Nat) (x : Int), x ∈ nrF A n j → 0 ≤ x ∧ x < (n : Int)
  | 0, j, x, h => by simp [nrF] at h
  | n + 1, j, x, h => by
    rcases fold_app_or n _ _ j x h with h | h
    · have := nrF_lt A n j x h; omega
    · omega
theorem parts_le2 (t : Tm) : (parts t).length ≤ 2 := by unfold parts; split <;> (try split) <;> simp
theorem nrF_len (A : List Tm) : ∀ (n j : Nat), (nrF A n j).length ≤ 3 * n
  | 0, j => by simp [nrF]
  | n + 1, j => by
    have h1 := fold_app_len n ((n : Int) :: parts (at_ A n)) (nrF A n) j
    have h2 := nrF_len A n j
    have h3 := parts_le2 (at_ A n)
    rw [List.length_cons] at h1
    show (((n : Int) :: parts (at_ A n)).foldl (fun F p => app1 F p.toNat n) (nrF A n) j).length ≤ _
    omega
/-- two rising lists of the same are one -/
theorem rising_ext : ∀ {L M : List Int}, L.Pairwise (· < ·) → M.Pairwise (· < ·) → (∀ x, x ∈ L ↔ x ∈ M) → L = M
  | [], [], _, _, _ => rfl
  | [], y :: M, _, _, h => absurd ((h y).2 (by simp)) (by simp)
  | x :: L, [], _, _, h => absurd ((h x).1 (by simp)) (by simp)
  | x :: L, y :: M, h1, h2, h => by
    rw [List.pairwise_cons] at h1 h2
    have hxy : x = y := by
      rcases List.mem_cons.1 ((h x).1 (by simp)) with e | hx
      · exact e
      · rcases List.mem_cons.1 ((h y).2 (by simp)) with e | hy
        · exact e.symm
        · have := h1.1 y hy; have := h2.1 x hx; omega
    subst hxy
    rw [rising_ext h1.2 h2.2 fun z => ⟨fun hz => ?_, fun hz => ?_⟩]
    · rcases List.mem_cons.1 ((h z).1 (by simp [hz])) with e | hz'
      · have := h1.1 z hz; omega
      · exact hz'
    · rcases List.mem_cons.1 ((h z).2 (by simp [hz])) with e | hz'
      · have := h2.1 z hz; omega
      · exact hz'
theorem sort_out {f : Nat → Bool} {n : Nat} {D : List Int} (hD : D.Nodup) (h : ∀ x, x ∈ D ↔ x ∈ outL f n) : D.mergeSort (fun x y => decide (x ≤ y)) = outL f n := by
  have hp := List.mergeSort_perm D (fun x y => decide (x ≤ y))
  refine rising_ext ?_ (outL_rising f n) fun x => (hp.mem_iff).trans (h x)
  have hs := List.pairwise_mergeSort (le := fun x y : Int => decide (x ≤ y)) (fun a b c h1 h2 => by simp at h1 h2 ⊢; omega) (fun a b => by simp; omega) D
  have hn : (D.mergeSort (fun x y => decide (x ≤ y))).Pairwise (· ≠ ·) := hp.nodup_iff.2 hD
  refine (hs.and hn).imp fun {a b} h => ?_
  have h1 := of_decide_eq_true h.1
  have h2 := h.2
  omega
/-- a list of which what follows from it is in it, and all of which is in a chain, is what is known -/
theorem known_of {A : List Tm} {H D : List Int} (hD : ∀ x ∈ D, Pl A x) (hc : Chn A H D) (h0 : ∀ h ∈ H, h ∈ D) (h1 : ∀ j, Pl A j → Fol A (· ∈ D) j → j ∈ D) (x : Int) : x ∈ D ↔ Kn A H x := Kn.eq h0 h1 (fun _ hx => hc.all hD hx) x
end M
end Go.Proofs.Ytljaahheofikpaa
namespace Go.Proofs.Ytljaahheofikpaa
open Go.RowKit
theorem Is.cellq {W : World} {b off n cap : Nat} {L : List Int} (h : Is W (.slice (some ⟨b, off, none⟩) n cap) L) {k : Nat} {x : Int} (hk : L[k]? = some x) : W.cell? ⟨b, off + k, none⟩ = some (.int .i64 x) := by
  have := Sl.at h hk (i := 0) (by decide)
  simpa [elInt] using this
/-- terms may be, and all places are theirs -/
def M.plsB (A : List M.Tm) (L : List Int) : Bool := decide (M.Ok A ∧ L.length ≤ 65536 ∧ ∀ x ∈ L, 0 ≤ x ∧ x < A.length)
theorem M.plsB_iff {A : List M.Tm} {L : List Int} : M.plsB A L = true ↔ M.Ok A ∧ L.length ≤ 65536 ∧ ∀ x ∈ L, M.Pl A x := by unfold M.plsB; rw [decide_eq_true_eq]
end Go.Proofs.Ytljaahheofikpaa
namespace Go.Proofs.Ytljaahheofikpaa
open Go.RowKit
/-- outside a territory all stays -/
structure Outs (T : Nat → Prop) (w w' : World) : Prop where
  os : w'.os = w.os
  tape : w'.tape = w.tape
  output : w'.output = w.output
  size : w.heap.size ≤ w'.heap.size
  block : ∀ i, i < w.heap.size → ¬ T i → w'.heap[i]? = w.heap[i]?
theorem Outs.refl (T : Nat → Prop) (w : World) : Outs T w w := ⟨rfl, rfl, rfl, Nat.le_refl _, fun _ _ _ => rfl⟩
theorem Outs.trans {T : Nat → Prop} {a b c : World} (h : Outs T a b) (k : Outs T b c) : Outs T a c :=
  ⟨k.os.trans h.os, k.tape.trans h.tape, k.output.trans h.output, Nat.le_trans h.size k.size, fun i hi ht => (k.block i (Nat.lt_of_lt_of_le hi h.size) ht).trans (h.block i hi ht)⟩
theorem Outs.mono {T T' : Nat → Prop} {w w' : World} (h : Outs T w w') (hT : ∀ i, T i → T' i) : Outs T' w w' := ⟨h.os, h.tape, h.output, h.size, fun i hi ht => h.block i hi fun x => ht (hT i x)⟩
theorem Outs.below {T : Nat → Prop} {w w' : World} (h : Outs T w w') {s : Nat} (hT : ∀ i, T i → s ≤ i) (hs : s ≤ w.heap.size) : Below s w w' :=
  ⟨h.os, h.tape, h.output, h.size, fun i hi => h.block i (by omega) fun x => by have := hT i x; omega⟩
theorem Outs.of_below {T : Nat → Prop} {w w' : World} (h : Below w.heap.size w w') : Outs T w w' := ⟨h.os, h.tape, h.output, h.size, fun i hi _ => h.block i hi⟩
theorem Outs.of_grown {T : Nat → Prop} {w w' : World} {row : Option Nat} (h : w.grownBy w' row) (hr : ∀ k, row = some k → T k) : Outs T w w' :=
  ⟨h.os, h.tape, h.output, h.size, fun i hi ht => h.block i hi fun e => ht (hr i e.symm)⟩
theorem Outs.set {T : Nat → Prop} (w : World) {g k : Nat} (v : Value) (hg : T g) : Outs T w (w.setCell ⟨g, k, none⟩ v) :=
  Outs.of_grown (grownq_set w g k v) fun j e => by cases e; exact hg
theorem Outs.alloc {T : Nat → Prop} (w : World) (o : Obj) : Outs T w (w.alloc o) := Outs.of_grown (World.grownBy_alloc w o none) fun _ e => by cases e
theorem own_outs {T : Nat → Prop} {w w' : World} {base : Nat} {e : TypeId} {size : Nat} {v : Value} {n : Nat} {xs : List Value} (h : w.ownsRow base e size v n xs) (ho : Outs T w w') (hv : ∀ k, v.ownBlock = some k → ¬ T k) : w'.ownsRow base e size v n xs := by
  refine ⟨h.1, ?_⟩
  rcases h.2 with hn | ⟨g, cap, cur, rfl, hb, hgg, rest⟩
  · exact .inl hn
  · refine .inr ⟨g, cap, cur, rfl, hb, ?_, rest⟩
    rw [ho.block g (Array.getElem?_eq_some_iff.1 hgg).1 (hv g rfl)]
    exact hgg
/-- a block with these cells -/
def Bxs (W : World) (B : Nat) (cs : Array Value) (t : TypeId) : Prop := W.heap[B]? = some (.cells cs t (0, 0))
theorem Bxs.lt {W : World} {B : Nat} {cs : Array Value} {t : TypeId} (h : Bxs W B cs t) : B < W.heap.size := (Array.getElem?_eq_some_iff.1 h).1
theorem Bxs.cell {W : World} {B : Nat} {cs : Array Value} {t : TypeId} (h : Bxs W B cs t) (j : Nat) : W.cell? ⟨B, j, none⟩ = cs[j]? := cell_of_row W B j cs t (0, 0) h
theorem Bxs.frozen {W : World} {B : Nat} {cs : Array Value} {t : TypeId} (h : Bxs W B cs t) (j : Nat) : W.frozen? ⟨B, j, none⟩ = false := frozen_of_row W B j cs t h
theorem Bxs.new (W : World) (cs : Array Value) (t : TypeId) : Bxs (W.alloc (.cells cs t)) W.heap.size cs t := heap_alloc_new W _
theorem Bxs.outs {T : Nat → Prop} {W W' : World} {B : Nat} {cs : Array Value} {t : TypeId} (h : Bxs W B cs t) (ho : Outs T W W') (hB : ¬ T B) : Bxs W' B cs t := (ho.block B h.lt hB).trans h
theorem Bxs.below {W W' : World} {B : Nat} {cs : Array Value} {t : TypeId} (h : Bxs W B cs t) (hb : Below W.heap.size W W') : Bxs W' B cs t := (hb.block B h.lt).trans h
theorem Bxs.alloc {W : World} {B : Nat} {cs : Array Value} {t : TypeId} (h : Bxs W B cs t) (o : Obj) : Bxs (W.alloc o) B cs t := h.below ((Below.refl _ _).alloc (Nat.le_refl _) o)
theorem Bxs.grown {W W' : World} {B : Nat} {row : Option Nat} {cs : Array Value} {t : TypeId} (h : Bxs W B cs t) (hg : W.grownBy W' row) (hne : some B ≠ row) : Bxs W' B cs t := (hg.block B h.lt hne).trans h
theorem Bxs.set {W : World} {B : Nat} {cs : Array Value} {t : TypeId} (h : Bxs W B cs t) (j : Nat) (v : Value) : Bxs (W.setCell ⟨B, j, none⟩ v) B (cs.setIfInBounds j v) t := heap_setCell_same W B j cs t v h
theorem Bxs.other {W : World} {B : Nat} {cs : Array Value} {t : TypeId} (h : Bxs W B cs t) {g : Nat} (hne : B ≠ g) (j : Nat) (v : Value) : Bxs (W.setCell ⟨g, j, none⟩ v) B cs t := (heap_setCell_other W ⟨g, j, none⟩ B v hne).trans h
/-- a block of another type is no row's -/
theorem Bxs.apart {W : World} {B : Nat} {cs : Array Value} {t : TypeId} (h : Bxs W B cs t) {base : Nat} {e : TypeId} {size : Nat} {v : Value} {n : Nat} {xs : List Value} (ho : W.ownsRow base e size v n xs) (hne : t ≠ e) : v.ownBlock ≠ some B := by
  intro he
  rcases ho.2 with ⟨rfl, _⟩ | ⟨g, cap, cur, rfl, _, hg, _⟩
  · cases he
  · cases he
    have h' : W.heap[g]? = _ := h
    rw [h'] at hg
    simp only [Option.some.injEq, Obj.cells.injEq] at hg
    exact hne hg.2.1
theorem own_apartq {W : World} {b b' : Nat} {e e' : TypeId} {z z' : Nat} {v v' : Value} {n n' : Nat} {xs xs' : List Value} (h : W.ownsRow b e z v n xs) (h' : W.ownsRow b' e' z' v' n' xs') (hne : e ≠ e') {k : Nat} (hk : v.ownBlock = some k) : v'.ownBlock ≠ some k := by
  rcases h.2 with ⟨rfl, _⟩ | ⟨g, cap, cur, rfl, _, hg, _⟩
  · cases hk
  · cases hk
    exact Bxs.apart (show Bxs W g cur e from hg) h' hne
section
variable {P : Program} {α : Type} {E : Elt P α} {w : World}
/-- 'append' to a row of one's own: it stays where it was, or lies in new memory -/
theorem wp_append_fr {o : Oper} {a : Act} {K : Act → World → Prop} {Q : Exit → Act → World → Prop} (s x : Operand)
    (ho : o.op = .call { callee := .builtin .append, args := #[s, x], argTypes := #[E.st, E.st] })
    (base : Nat) (v : Value) (n : Nat) (A : List α) (hs : a.eval s = v) (hown : w.ownsRow base E.et E.size v n (E.cells A))
    (vx : Value) (L : List α) (hx : a.eval x = vx) (hu : Sl E w vx L) (h63 : n + L.length ≤ 1000000) (hbase : base ≤ w.heap.size)
    (h : ∀ v' w', w'.ownsRow base E.et E.size v' (n + L.length) (E.cells (A ++ L)) → w.grownBy w' v.ownBlock → (∀ k, v'.ownBlock = some k → v.ownBlock = some k ∨ w.heap.size ≤ k) → K (a.put o.dst v') w') : o.wp P a w K Q := by
  obtain ⟨i, hi, hz, hsize, hby⟩ := info_partsq E.info
  obtain ⟨ao, cap, rfl, q1, q2, q3, q4⟩ := hu
  cases ao with
  | none =>
    have h0 : L.length = 0 := by
      rcases Nat.eq_zero_or_pos L.length with h | h
      · exact h
      · obtain ⟨b, off, e, _⟩ := q4 (by omega); cases e
    have hL : L = [] := List.eq_nil_of_length_eq_zero h0
    subst hL
    unfold Oper.wp execOp
    simp only [ho, resolve, invoke, builtin, Sem.run_bind, Sem.run_pure, Result.andThen_ok, List.map_toArray, List.map_cons, List.map_nil, hs, hx, List.length_nil, run_append_nilq w base E.st o.type E.et i E.ht hi E.size v n _ hown cap]
    exact h v w (by simpa using hown) ⟨rfl, rfl, rfl, Nat.le_refl _, fun _ _ _ => rfl⟩ fun _ => .inl
  | some ad =>
    have hnews : ∀ j u, (E.cells L)[j]? = some u → w.cell? (ad.add j) = some u := by
      intro j u hj
      have hjl : j < L.length * E.size := by
        have := (List.getElem?_eq_some_iff.1 hj).1
        rwa [E.cells_length] at this
      have h0 : 0 < L.length := by
        rcases Nat.eq_zero_or_pos L.length with h | h
        · rw [h] at hjl; omega
        · exact h
      obtain ⟨b, off, e, _, h2⟩ := q4 (by omega)
      cases e
      rw [Addr.add_lit, h2 j hjl]; exact hj
    have hm : n + L.length ≤ maxLen := by unfold maxLen; omega
    have hbytes : (n + L.length) * E.bytes ≤ 140737488355328 := by
      have := Nat.mul_le_mul h63 E.small
      omega
    have hl := E.cells_length L
    have h1 := E.cells_one L
    have key : ∃ v' w', (Builtin.append_ #[E.st, E.st] o.type #[v, .slice (some ad) L.length cap]).run P w = .ok v' w' ∧ w'.ownsRow base E.et E.size v' (n + L.length) (E.cells A ++ E.cells L) ∧ w.grownBy w' v.ownBlock ∧ (∀ k, v'.ownBlock = some k → v.ownBlock = some k ∨ w.heap.size ≤ k) := by
      obtain ⟨v', w', hr, h2, h3, _⟩ := run_append_own (P := P) w base E.st o.type E.et i E.zero E.size E.bytes E.ht hi hz hsize hby E.zs E.pos v n _ hown ad L.length cap (E.cells L) hl hnews h1 hm hbytes hbase
      refine ⟨v', w', hr, h2, h3, fun k hk => ?_⟩
      rcases hown.2 with ⟨rfl, rfl⟩ | ⟨g, cap', cur, rfl, hbg, hg, hnc, hcm, hcs, htake⟩
      · obtain ⟨v2, w2, hr2, k2, _, _⟩ := run_append_own (P := P) w w.heap.size E.st o.type E.et i E.zero E.size E.bytes E.ht hi hz hsize hby E.zs E.pos _ 0 _ ⟨hown.1, .inl ⟨rfl, rfl⟩⟩ ad L.length cap (E.cells L) hl hnews h1 hm hbytes (Nat.le_refl _)
        rw [hr] at hr2
        cases hr2
        exact .inr (k2.lt k hk).1
      · by_cases hroom : n + L.length ≤ cap'
        · have hr2 := run_append_room (P := P) w E.st o.type E.et i E.ht hi g n cap' cur hg ad L.length cap (E.cells L) (by rw [hsize]; exact hl) hnews h1 hroom (by rw [hl, hcs, hsize, ← Nat.add_mul]; exact Nat.mul_le_mul_right _ hroom)
          rw [hr] at hr2
          cases hr2
          exact .inl hk
        · have hr2 := run_append_grow (P := P) w E.st o.type E.et i E.zero E.ht hi hz ⟨g, 0, none⟩ n cap' _ (by rw [hsize]; exact hown.1) (hown.cells (g := g) rfl) ad L.length cap (E.cells L) (by rw [hsize]; exact hl) hnews (by omega) (by omega) (growslice_fits (by omega) (by rw [hby]; exact hbytes))
          rw [hr] at hr2
          cases hr2
          cases hk
          exact .inr (Nat.le_refl _)
    obtain ⟨v', w', hr, h2, h3, h4⟩ := key
    unfold Oper.wp execOp
    simp only [ho, resolve, invoke, builtin, Sem.run_bind, Sem.run_pure, Result.andThen_ok, List.map_toArray, List.map_cons, List.map_nil, hs, hx, hr]
    exact h v' w' (by rw [E.cells_append]; exact h2) h3 h4
theorem wpList_append_fr {ops : Array Oper} {rest : List Oper} {o : Oper} {a : Act} {Q : Exit → Act → World → Prop} (hgd : Region.wanted o (yielded ops a.tmps) = true) (s x : Operand)
    (ho : o.op = .call { callee := .builtin .append, args := #[s, x], argTypes := #[E.st, E.st] })
    (base : Nat) (v : Value) (n : Nat) (A : List α) (hs : a.eval s = v) (hown : w.ownsRow base E.et E.size v n (E.cells A))
    (vx : Value) (L : List α) (hx : a.eval x = vx) (hu : Sl E w vx L) (h63 : n + L.length ≤ 1000000) (hbase : base ≤ w.heap.size)
    (h : ∀ v' w', w'.ownsRow base E.et E.size v' (n + L.length) (E.cells (A ++ L)) → w.grownBy w' v.ownBlock → (∀ k, v'.ownBlock = some k → v.ownBlock = some k ∨ w.heap.size ≤ k) → wpList P ops Q rest (a.put o.dst v') w') : wpList P ops Q (o :: rest) a w :=
  wpList_wantedq hgd fun _ hK => wp_append_fr s x ho base v n A hs hown vx L hx hu h63 hbase fun v' w' h1 h2 h3 => hK _ _ (h v' w' h1 h2 h3)
theorem step_append_fr {ops : Array Oper} {o : Oper} {a : Act} {K : Act → World → Prop} {Q : Exit → Act → World → Prop} {X : Prop} (hgd : Region.wanted o (yielded ops a.tmps) = true) (s x : Operand)
    (ho : o.op = .call { callee := .builtin .append, args := #[s, x], argTypes := #[E.st, E.st] })
    (base : Nat) (v : Value) (n : Nat) (A : List α) (hs : a.eval s = v) (hown : w.ownsRow base E.et E.size v n (E.cells A))
    (vx : Value) (L : List α) (hx : a.eval x = vx) (hu : Sl E w vx L) (h63 : n + L.length ≤ 1000000) (hbase : base ≤ w.heap.size)
    (h : ∀ v' w', w'.ownsRow base E.et E.size v' (n + L.length) (E.cells (A ++ L)) → w.grownBy w' v.ownBlock → (∀ k, v'.ownBlock = some k → v.ownBlock = some k ∨ w.heap.size ≤ k) → K (a.put o.dst v') w') :
    if Region.wanted o (yielded ops a.tmps) = true then Oper.wp P o a w K Q else X := by
  rw [if_pos hgd]
  exact wp_append_fr s x ho base v n A hs hown vx L hx hu h63 hbase h
end
end Go.Proofs.Ytljaahheofikpaa
namespace Go.Proofs.Ytljaahheofikpaa
open Go.RowKit
/-- what one knows, as the program holds it: a block with the terms, the truth values of all places, and the places in order -/
def Mind (W : World) (T : Nat → Prop) (s B : Nat) (vt : Value) (n : Nat) (D : List Int) : Prop :=
  ∃ g vo, Bxs W B #[vt, .slice (some ⟨g, 0, none⟩) n n, vo] 82 ∧ W.ownsRow s 4 1 (.slice (some ⟨g, 0, none⟩) n n) n (elBool.cells (M.rowB (fun j => decide ((j : Int) ∈ D)) n)) ∧ W.ownsRow s 3 1 vo D.length (elInt.cells D) ∧ T B ∧ T g ∧ ∀ k, vo.ownBlock = some k → T k
theorem Mind.outs {W W' : World} {T T' : Nat → Prop} {s B : Nat} {vt : Value} {n : Nat} {D : List Int} (h : Mind W T s B vt n D) (ho : Outs T' W W') (hT : ∀ i, T i → i < W.heap.size → ¬ T' i) : Mind W' T s B vt n D := by
  obtain ⟨g, vo, h1, h2, h3, h4, h5, h6⟩ := h
  refine ⟨g, vo, h1.outs ho (hT B h4 h1.lt), own_outs h2 ho fun k hk => ?_, own_outs h3 ho fun k hk => hT k (h6 k hk) (h3.lt k hk).2, h4, h5, h6⟩
  cases hk
  exact hT g h5 (h2.lt g rfl).2
theorem Mind.below {W W' : World} {T : Nat → Prop} {s B : Nat} {vt : Value} {n : Nat} {D : List Int} (h : Mind W T s B vt n D) (hb : Below W.heap.size W W') : Mind W' T s B vt n D :=
  h.outs (T' := fun _ => False) (Outs.of_below hb) fun _ _ _ h => h
theorem Mind.mono {W : World} {T T' : Nat → Prop} {s B : Nat} {vt : Value} {n : Nat} {D : List Int} (h : Mind W T s B vt n D) (hT : ∀ i, T i → i < W.heap.size → T' i) : Mind W T' s B vt n D := by
  obtain ⟨g, vo, h1, h2, h3, h4, h5, h6⟩ := h
  exact ⟨g, vo, h1, h2, h3, hT B h4 h1.lt, hT g h5 (h2.lt g rfl).2, fun k hk => hT k (h6 k hk) (h3.lt k hk).2⟩
theorem M.row_more {D : List Int} {p n : Nat} : M.rowB (fun j => decide ((j : Int) ∈ D) || decide (j = p)) n = M.rowB (fun j => decide ((j : Int) ∈ D ++ [(p : Int)])) n :=
  M.rowB_congr fun j _ => by
    by_cases h1 : (j : Int) ∈ D <;> by_cases h2 : j = p
    · simp [h2]
    · simp [h1]
    · subst h2; simp
    · have : ¬ (j : Int) = p := by omega
      simp [h1, h2, this]
theorem is_oneq (W : World) (g : Nat) (hg : g = W.heap.size) (x : Int) (h : M.fitI x) : Is (W.alloc (.cells #[.int .i64 x] 3)) (.slice (some ⟨g, 0, none⟩) 1 1) [x] := by subst hg; exact Is.one W x h
/-- one more place is learnt -/
theorem mind_box {W w6 : World} {s B g n p : Nat} {vt vo : Value} {D : List Int} (h1 : Bxs W B #[vt, .slice (some ⟨g, 0, none⟩) n n, vo] 82)
    (h2 : W.ownsRow s 4 1 (.slice (some ⟨g, 0, none⟩) n n) n (elBool.cells (M.rowB (fun j => decide ((j : Int) ∈ D)) n))) (h3 : W.ownsRow s 3 1 vo D.length (elInt.cells D)) (o : Obj)
    (hg : ((W.setCell ⟨g, p, none⟩ (.bool true)).alloc o).grownBy w6 vo.ownBlock) : Bxs w6 B #[vt, .slice (some ⟨g, 0, none⟩) n n, vo] 82 := by
  have hBg : B ≠ g := fun e => h1.apart h2 (by decide) (by rw [e]; rfl)
  exact ((h1.other hBg p _).alloc o).grown hg fun e => h1.apart h3 (by decide) e.symm
theorem mind_more {W w6 : World} {T : Nat → Prop} {s B g n p : Nat} {vt vo v6 : Value} {D : List Int} (h1 : Bxs W B #[vt, .slice (some ⟨g, 0, none⟩) n n, vo] 82)
    (h2 : W.ownsRow s 4 1 (.slice (some ⟨g, 0, none⟩) n n) n (elBool.cells (M.rowB (fun j => decide ((j : Int) ∈ D)) n))) (h3 : W.ownsRow s 3 1 vo D.length (elInt.cells D)) (tB : T B) (tg : T g) (tO : ∀ k, vo.ownBlock = some k → T k) (hT : ∀ i, W.heap.size ≤ i → T i) (o : Obj)
    (hown : w6.ownsRow s 3 1 v6 (D.length + 1) (elInt.cells (D ++ [(p : Int)]))) (hg : ((W.setCell ⟨g, p, none⟩ (.bool true)).alloc o).grownBy w6 vo.ownBlock)
    (hf : ∀ k, v6.ownBlock = some k → vo.ownBlock = some k ∨ ((W.setCell ⟨g, p, none⟩ (.bool true)).alloc o).heap.size ≤ k) : Mind (w6.setCell ⟨B, 2, none⟩ v6) T s B vt n (D ++ [(p : Int)]) ∧ Outs T W (w6.setCell ⟨B, 2, none⟩ v6) := by
  have hX := mind_box (p := p) h1 h2 h3 o hg
  have hK : w6.ownsRow s 4 1 (.slice (some ⟨g, 0, none⟩) n n) n (elBool.cells (M.rowB (fun j => decide ((j : Int) ∈ D ++ [(p : Int)])) n)) := by
    rw [← M.row_more]
    refine ((ownB_store h2 p).alloc o).kept hg (.inr fun e => ?_)
    exact own_apartq h2 h3 (by decide) rfl e.symm
  have hOs : Outs (fun i => i = B) w6 (w6.setCell ⟨B, 2, none⟩ v6) := Outs.set w6 v6 rfl
  refine ⟨⟨g, v6, ?_, own_outs hK hOs fun k hk e => ?_, ?_, tB, tg, fun k hk => ?_⟩, ?_⟩
  · exact hX.set 2 v6
  · cases hk
    subst e
    exact hX.apart hK (by decide) rfl
  · rw [List.length_append, List.length_singleton]
    exact own_outs hown hOs fun k hk e => by subst e; exact hX.apart hown (by decide) hk
  · rcases hf k hk with e | e
    · exact tO k e
    · exact hT k (by simp at e; omega)
  · exact ((Outs.set W _ tg).trans (Outs.alloc _ o)).trans ((Outs.of_grown hg tO).trans (Outs.set w6 v6 tB))
set_option maxRecDepth 100000 in
set_option maxHeartbeats 4000000 in
theorem learn_any (T : Nat → Prop) (s B : Nat) (vt : Value) (n : Nat) (D L : List Int) (v : Value) (w : World) (hM : Mind w T s B vt n D) (hT : ∀ i, w.heap.size ≤ i → T i) (hs : s ≤ w.heap.size)
    (hn : n ≤ 65536) (hD : M.Gd n D) (hL : ∀ x ∈ L, 0 ≤ x ∧ x < (n : Int)) (u : ∀ X, Outs T w X → Is X v L) :
    Calls Try.prog 74 #[.pointer (some ⟨B, 0, none⟩), v] w fun e w' => e = .returned (.tuple #[]) ∧ Mind w' T s B vt n (M.lrn D L) ∧ Outs T w w' := by
  have u0 := u w (Outs.refl _ _)
  obtain ⟨a1, c1, rfl, hp1, hp2, hp4⟩ := u0.form
  have hm : L.length ≤ maxLen := by omega
  unfold maxLen at hm
  have U := hidq u
  have HP4 := hidq hp4
  have HM := hidq hM
  have HT := hidq hT
  have HD := hidq hD
  have HL := hidq hL
  clear u u0 hp4 hM hT hD hL
  generalize hl : L.length = m at *
  have HN := hidq hl
  clear hl
  go_enter Try.func74, Try.ntmps74
  go_wp2
  go_loopw [8] (fun x wr => ∃ k : Nat, k ≤ m ∧ x = .int .i64 k ∧ Mind wr T s B vt n (M.lrn D (L.take k)) ∧ Outs T w wr) (fun x _ => m - (intOf x).toNat)
  case atStart => exact ⟨0, by omega, rfl, HM.out, Outs.refl _ _⟩
  case round =>
    obtain ⟨k, hk, rfl, hmd, hou⟩ := hrel
    have HO := hidq hou
    have hsz := hou.size
    by_cases hlt : k < m
    · obtain ⟨b1, o1, rfl⟩ := HP4.out (by omega)
      have hkl : k < L.length := by rw [HN.out]; exact hlt
      obtain ⟨x, hx⟩ : ∃ x, L[k]? = some x := ⟨_, List.getElem?_eq_getElem hkl⟩
      have c1 := Is.cellq (U.out _ hou) hx
      have hxb := HL.out x (List.mem_of_getElem? hx)
      have HNX := hidq (M.lrn_next D L k x hx)
      have hGd : M.Gd n (M.lrn D (L.take k)) := HD.out.lrn fun y hy => HL.out y (List.mem_of_mem_take hy)
      have hdl := hGd.len
      have HMD := hidq hmd
      clear hx hmd hou hkl hGd
      generalize M.lrn D (L.take k) = D1 at *
      obtain ⟨p, rfl⟩ : ∃ p : Nat, x = p := ⟨x.toNat, by omega⟩
      have hpn : p < n := by omega
      obtain ⟨g, vo, h1, h2, h3, tB, tg, tO⟩ := HMD.out
      have q1 := h1.cell 1
      have q2 := ownB_cell h2 hpn
      have hpi : (p : Int) < n := by omega
      by_cases hd : (p : Int) ∈ D1
      · rw [decide_eq_true hd] at q2
        rw [M.lrn1_yes hd] at HNX
        clear h1 h2 h3 hd
        go_wp2
        go_roundw
        case rel => exact ⟨k + 1, by omega, by go_num, by rw [HNX.out]; exact HMD.out, HO.out⟩
        case measure => simp [intOf]; omega
      · rw [decide_eq_false hd] at q2
        rw [M.lrn1_no hd] at HNX
        have q3 := h2.frozenAt p
        have hBg : B ≠ g := fun e => h1.apart h2 (by decide) (by rw [e]; rfl)
        have q4 := (h1.other hBg p (.bool true)).cell 2
        have H1 := hidq h1
        have H2 := hidq h2
        have H3 := hidq h3
        have HK1 := hidq (show (wr.setCell ⟨g, p, none⟩ (.bool true)).ownsRow s 3 1 vo D1.length (elInt.cells D1) from (h3.kept (grownq_set wr g p _) (.inr fun e => own_apartq h2 h3 (by decide) rfl e)))
        have hfit : M.fitI (p : Int) := ⟨by omega, by omega⟩
        have HFI := hidq hfit
        clear h1 h2 h3 hd hfit hxb
        go_wp2_with (first | (at_builtin; refine wpList_append_fr (E := elInt) rfl _ _ rfl s _ _ D1 rfl (HK1.out.alloc _) _ [(p : Int)] rfl (is_oneq _ _ (by simp) _ HFI.out) (by simp only [List.length_cons, List.length_nil]; omega) (by simp; omega) ?_; intro v6 w6 hown6 hgrow6 hfr6; obtain ⟨ao6, cap6, rfl, _⟩ := own_formq hown6; have hX6 := mind_box H1.out H2.out H3.out _ hgrow6; have q6 := hX6.cell 2; have q7 := hX6.frozen 2; have hMM := hidq (mind_more H1.out H2.out H3.out tB tg tO (fun i hi => HT.out i (by omega)) _ hown6 hgrow6 hfr6); clear hown6 hgrow6 hfr6 hX6))
        go_roundw
        case rel => exact ⟨k + 1, by omega, by go_num, by rw [HNX.out]; exact hMM.out.1, HO.out.trans hMM.out.2⟩
        case measure => simp [intOf]; omega
    · obtain rfl : k = m := by omega
      have e : L.take k = L := List.take_of_length_le (by rw [HN.out]; omega)
      rw [e] at hmd
      have HMD := hidq hmd
      clear hmd hou e
      go_wp2
      go_end0
      exact ⟨rfl, HMD.out, HO.out⟩
end Go.Proofs.Ytljaahheofikpaa
namespace Go.Proofs.Ytljaahheofikpaa
open Go.RowKit
theorem Try.infoBoolz : (Try.prog.info? 4).map (fun i => (i.zero, i.size, i.bytes)) = some (some (.bool false), 1, 1) := by kernel_rfl
theorem M.row_none (n : Nat) : M.rowB (fun _ => false) n = M.rowB (fun j => decide ((j : Int) ∈ ([] : List Int))) n := M.rowB_congr fun j _ => by simp
set_option maxRecDepth 100000 in
set_option maxHeartbeats 4000000 in
theorem mindOf_any (n : Nat) (A : List M.Tm) (L : List Int) (v1 v2 : Value) (w : World) (u1 : Ts w v1 A) (u2 : Is w v2 L) (hA : A.length = n) (hn : n ≤ 65536) (hL : ∀ x ∈ L, 0 ≤ x ∧ x < (n : Int)) :
    Calls Try.prog 52 #[v1, v2] w fun e w' => ∃ B, e = .returned (.pointer (some ⟨B, 0, none⟩)) ∧ Mind w' (fun i => w.heap.size ≤ i) w.heap.size B v1 n (M.lrn [] L) ∧ Below w.heap.size w w' := by
  obtain ⟨a1, c1, rfl, hp1, hp2, hp4⟩ := u1.form
  have U2 := hidq u2
  have HL := hidq hL
  rw [hA] at *
  clear hp4 u1 u2 hL
  obtain ⟨i0, hi, hz0, hz1, hz2⟩ := info_partsq Try.infoBoolz
  go_enter Try.func52, Try.ntmps52
  go_wp2_with (first | (at_make; refine wpList_make_full _ rfl _ _ 80 rfl w.heap.size 4 i0 (.bool false) 1 Try.underlying80 hi hz0 hz1 _ _ _ _ n rfl rfl (by first | rfl | omega) (by first | rfl | omega) ?b2 ?b3 ?b4 ?_))
  case b2 => (try rw [hz2]); omega
  case b3 => unfold maxLen; omega
  intro w2 hown hgrow
  rw [elBool_zeros, M.row_none] at hown
  have hB2 : Below w.heap.size w w2 := (Below.refl _ _).grown hgrow (Nat.le_refl _) (fun k hk => by cases hk)
  have hg2 : w.heap.size < w2.heap.size := (hown.lt _ rfl).2
  have hMd : Mind (w2.alloc (.cells #[.slice a1 n c1, .slice (some ⟨w.heap.size, 0, none⟩) n n, .slice none 0 0] 82)) (fun i => w.heap.size ≤ i) w.heap.size w2.heap.size (.slice a1 n c1) n [] :=
    ⟨w.heap.size, .slice none 0 0, Bxs.new _ _ _, hown.alloc _, World.ownsRow_nil _ _ _ _, by omega, Nat.le_refl _, fun k hk => by cases hk⟩
  have HMD := hidq hMd
  have HB3 := hidq (below_one (o := .cells #[.slice a1 n c1, .slice (some ⟨w.heap.size, 0, none⟩) n n, .slice none 0 0] 82) hB2)
  clear hMd hB2 hown hgrow
  go_wp2_with (first | (go_at_call 74; refine (learn_any (fun i => w.heap.size ≤ i) w.heap.size w2.heap.size _ n [] L _ _ HMD.out (fun i hi => by simp at hi; omega) (by simp; omega) hn (M.Gd.nil n) HL.out (fun X hX => U2.out.below (HB3.out.trans (hX.below (fun _ h => h) (by simp; omega))))).mono ?_; rintro r w3 ⟨rfl, hm3, ho3⟩; have M3 := hidq hm3; have B4 := hidq (HB3.out.trans (ho3.below (fun _ h => h) (by simp; omega))); clear hm3 ho3))
  go_ret
  exact ⟨_, rfl, M3.out, B4.out⟩
set_option maxRecDepth 100000 in
set_option maxHeartbeats 4000000 in
theorem tells_any (A : List M.Tm) (hA : M.Ok A) (T : Nat → Prop) (s B : Nat) (vt : Value) (n : Nat) (D : List Int) (k : Nat) (w : World) (hM : Mind w T s B vt n D) (u : Ts w vt A) (hn : A.length = n) (hk : k < n) :
    Calls Try.prog 76 #[.pointer (some ⟨B, 0, none⟩), .int .i64 k] w fun e w' => ∃ v', e = .returned v' ∧ w'.ownsRow w.heap.size 3 1 v' (M.tell A D k).length (elInt.cells (M.tell A D k)) ∧ Below w.heap.size w w' := by
  obtain ⟨at1, ct, rfl, hp1, hp2, hp4⟩ := u.form
  obtain ⟨bt, ot, rfl⟩ := hp4 (by omega)
  have hkA : k < A.length := by omega
  have hl := hA.1
  obtain ⟨x1, x2, x3⟩ := Ts.cell u hkA
  have hm := (hA.2 k hkA).1
  obtain ⟨g, vo, h1, h2, h3, tB, tg, tO⟩ := hM
  have HTE := hidq (@M.tell_no A D k)
  have HTO := hidq (@M.tell_one A D k)
  have HTT := hidq (@M.tell_two A D k)
  obtain ⟨E, hE⟩ : ∃ E, M.tell A D k = E := ⟨_, rfl⟩
  rw [hE] at HTE HTO HTT ⊢
  clear hE hA u hp4
  obtain ⟨⟨tk, ta, tb⟩, ht⟩ : ∃ t, M.at_ A k = t := ⟨_, rfl⟩
  rw [ht] at x1 x2 x3 hm HTE HTO HTT
  clear ht
  dsimp only at x1 x2 x3 HTE HTO HTT
  rw [hn] at *
  have q0 := h1.cell 0
  have q1 := h1.cell 1
  have HK := hidq (fun (p : Nat) (hp : p < n) => ownB_cell h2 hp)
  have lB := h1.lt
  have lg := (h2.lt g rfl).2
  have hki : (k : Int) < n := by omega
  have k0 : (0 : Int) ≤ k := by omega
  have HFK := hidq (show M.fitI (k : Int) from ⟨by omega, by omega⟩)
  have T1 := hidq trivial
  have H1 := hidq h1
  have H2 := hidq h2
  clear h1 h2 h3 tB tg tO hn
  rcases M.may_kind hm with ⟨k1, k2, k3, k4⟩ | ⟨k1, k2, k3, k4⟩ | ⟨k1, k2, k3, k4, k5⟩
  · dsimp only at k1 k4
    clear hm
    subst k1
    subst k4
    have e : E = [] := HTE.out (.inl rfl)
    subst e
    go_enter Try.func76, Try.ntmps76
    go_wp2
    go_quiet (fail)
    go_wp2
    go_ret
    exact ⟨_, rfl, World.ownsRow_nil _ _ _ _, below_dq (below_one (Below.refl _ _)) _⟩
  · dsimp only at k1 k2 k3 k4
    obtain ⟨a, ha⟩ : ∃ a : Nat, ta = a := ⟨ta.toNat, by omega⟩
    subst ha
    subst k4
    have han : a < n := by omega
    have hai : (a : Int) < n := by omega
    have c1 := HK.out a han
    clear hm
    by_cases hd : (a : Int) ∈ D
    · rw [decide_eq_true hd] at c1
      have e : E = [(k : Int)] := HTO.out (by rcases k1 with rfl | rfl | rfl <;> decide) hd (by rcases k1 with rfl | rfl | rfl <;> decide)
      subst e
      clear hd
      rcases k1 with rfl | rfl | rfl
      all_goals go_enter Try.func76, Try.ntmps76
      all_goals go_wp2
      all_goals go_quiet (fail)
      all_goals go_wp2
      all_goals go_ret
      all_goals exact ⟨_, rfl, own_lit1 _ w.heap.size _ (by simp) (by simp) _, below_one (below_dq (below_one (Below.refl _ _)) _)⟩
    · rw [decide_eq_false hd] at c1
      have e : E = [] := HTE.out (.inr hd)
      subst e
      clear hd
      rcases k1 with rfl | rfl | rfl
      all_goals go_enter Try.func76, Try.ntmps76
      all_goals go_wp2
      all_goals go_quiet (fail)
      all_goals go_wp2
      all_goals go_ret
      all_goals exact ⟨_, rfl, World.ownsRow_nil _ _ _ _, below_dq (below_one (Below.refl _ _)) _⟩
  · dsimp only at k1 k2 k3 k4 k5
    obtain ⟨a, ha⟩ : ∃ a : Nat, ta = a := ⟨ta.toNat, by omega⟩
    obtain ⟨b, hb⟩ : ∃ b : Nat, tb = b := ⟨tb.toNat, by omega⟩
    subst ha
    subst hb
    subst k1
    have han : a < n := by omega
    have hai : (a : Int) < n := by omega
    have hbn : b < n := by omega
    have hbi : (b : Int) < n := by omega
    have HFB := hidq (show M.fitI (b : Int) from ⟨by omega, by omega⟩)
    have T2 := hidq trivial
    have c1 := HK.out a han
    have c2 := HK.out b hbn
    have c3 := HK.out k hk
    clear hm
    by_cases hd : (a : Int) ∈ D
    · rw [decide_eq_true hd] at c1
      have e := HTT.out hd rfl
      clear hd
      by_cases hdb : (b : Int) ∈ D
      · rw [decide_eq_true hdb] at c2
        rw [if_pos hdb] at e
        by_cases hdk : (k : Int) ∈ D
        · rw [decide_eq_true hdk] at c3
          rw [if_pos hdk] at e
          have HKD := hidq (show decide ((k : Int) ∈ D) = true from decide_eq_true hdk)
          subst e
          clear hdb hdk
          go_enter Try.func76, Try.ntmps76
          go_wp2
          go_quiet (fail)
          go_wp2
          go_quiet (fail)
          go_wp2_with (first | (at_builtin; clear T1; refine wpList_append_fr (E := elInt) rfl _ _ rfl w.heap.size _ _ [] rfl (World.ownsRow_nil _ _ _ _) _ [(k : Int)] rfl (is_oneq _ _ (by simp) _ HFK.out) (by simp only [List.length_cons, List.length_nil]; omega) (by simp; omega) ?_; intro v6 w6 hown6 hgrow6 hfr6; obtain ⟨ao6, cap6, rfl, _⟩ := own_formq hown6; have hb6 : Below (w.alloc (.cells #[.int .i64 5, .int .i64 (a : Int), .int .i64 (b : Int)] 41)).heap.size (w.alloc (.cells #[.int .i64 5, .int .i64 (a : Int), .int .i64 (b : Int)] 41)) w6 := (by first | exact Below.grown (Below.alloc (below_dq (below_dq (Below.refl _ _) _) _) (by simp) _) hgrow6 (by simp) (fun q hq => by cases hq) | exact Below.grown (Below.alloc (below_dq (Below.refl _ _) _) (by simp) _) hgrow6 (by simp) (fun q hq => by cases hq)); have y1 := ((H1.out.alloc _).below hb6).cell 1; have y2 := ownB_cell (own_keptq (H2.out.alloc _) hb6) hk; rw [HKD.out] at y2; have y3 := ((Bx3.new w (5, (a : Int), (b : Int))).below hb6).cells.2.2; dsimp only at y3; have O6 := hidq hown6; have B6 := hidq (below_trans (below_one (Below.refl _ _)) hb6); have sz6 := hb6.size; simp at sz6; clear hown6 hgrow6 hfr6 hb6) | (at_builtin; clear T2; refine wpList_append_fr (E := elInt) rfl _ _ rfl w.heap.size _ _ [(k : Int)] rfl (O6.out.alloc _) _ [(b : Int)] rfl (is_oneq _ _ (by simp) _ HFB.out) (by simp only [List.length_cons, List.length_nil]; omega) (by simp; omega) ?_; intro v7 w7 hown7 hgrow7 hfr7; have O7 := hidq hown7; have B7 := hidq ((below_one (o := .cells #[.int .i64 (b : Int)] 3) B6.out).grown hgrow7 (by simp; omega) (fun q hq => (O6.out.lt q hq).1)); clear hown7 hgrow7 hfr7))
          go_ret
          exact ⟨_, rfl, O7.out, B7.out⟩
        · rw [decide_eq_false hdk] at c3
          rw [if_neg hdk] at e
          have HKD := hidq (show decide ((k : Int) ∈ D) = false from decide_eq_false hdk)
          subst e
          clear hdb hdk
          go_enter Try.func76, Try.ntmps76
          go_wp2
          go_quiet (fail)
          go_wp2
          go_quiet (fail)
          go_wp2_with (first | (at_builtin; clear T1; refine wpList_append_fr (E := elInt) rfl _ _ rfl w.heap.size _ _ [] rfl (World.ownsRow_nil _ _ _ _) _ [(k : Int)] rfl (is_oneq _ _ (by simp) _ HFK.out) (by simp only [List.length_cons, List.length_nil]; omega) (by simp; omega) ?_; intro v6 w6 hown6 hgrow6 hfr6; obtain ⟨ao6, cap6, rfl, _⟩ := own_formq hown6; have hb6 : Below (w.alloc (.cells #[.int .i64 5, .int .i64 (a : Int), .int .i64 (b : Int)] 41)).heap.size (w.alloc (.cells #[.int .i64 5, .int .i64 (a : Int), .int .i64 (b : Int)] 41)) w6 := (by first | exact Below.grown (Below.alloc (below_dq (below_dq (Below.refl _ _) _) _) (by simp) _) hgrow6 (by simp) (fun q hq => by cases hq) | exact Below.grown (Below.alloc (below_dq (Below.refl _ _) _) (by simp) _) hgrow6 (by simp) (fun q hq => by cases hq)); have y1 := ((H1.out.alloc _).below hb6).cell 1; have y2 := ownB_cell (own_keptq (H2.out.alloc _) hb6) hk; rw [HKD.out] at y2; have y3 := ((Bx3.new w (5, (a : Int), (b : Int))).below hb6).cells.2.2; dsimp only at y3; have O6 := hidq hown6; have B6 := hidq (below_trans (below_one (Below.refl _ _)) hb6); have sz6 := hb6.size; simp at sz6; clear hown6 hgrow6 hfr6 hb6))
          go_ret
          exact ⟨_, rfl, O6.out, B6.out⟩
      · rw [decide_eq_false hdb] at c2
        rw [if_neg hdb] at e
        by_cases hdk : (k : Int) ∈ D
        · rw [decide_eq_true hdk] at c3
          rw [if_pos hdk] at e
          subst e
          clear hdb hdk
          go_enter Try.func76, Try.ntmps76
          go_wp2
          go_quiet (fail)
          go_wp2
          go_quiet (fail)
          go_wp2_with (first | (at_builtin; clear T2; refine wpList_append_fr (E := elInt) rfl _ _ rfl w.heap.size _ _ [] rfl (World.ownsRow_nil _ _ _ _) _ [(b : Int)] rfl (is_oneq _ _ (by simp) _ HFB.out) (by simp only [List.length_cons, List.length_nil]; omega) (by simp; omega) ?_; intro v7 w7 hown6 hgrow6 hfr6; have hb6 : Below (w.alloc (.cells #[.int .i64 5, .int .i64 (a : Int), .int .i64 (b : Int)] 41)).heap.size (w.alloc (.cells #[.int .i64 5, .int .i64 (a : Int), .int .i64 (b : Int)] 41)) w7 := (by first | exact Below.grown (Below.alloc (below_dq (below_dq (Below.refl _ _) _) _) (by simp) _) hgrow6 (by simp) (fun q hq => by cases hq) | exact Below.grown (Below.alloc (below_dq (Below.refl _ _) _) (by simp) _) hgrow6 (by simp) (fun q hq => by cases hq)); have O7 := hidq hown6; have B7 := hidq (below_trans (below_one (Below.refl _ _)) hb6); clear hown6 hgrow6 hfr6 hb6))
          go_ret
          exact ⟨_, rfl, O7.out, B7.out⟩
        · rw [decide_eq_false hdk] at c3
          rw [if_neg hdk] at e
          subst e
          clear hdb hdk
          go_enter Try.func76, Try.ntmps76
          go_wp2
          go_quiet (fail)
          go_wp2
          go_quiet (fail)
          go_wp2
          go_ret
          exact ⟨_, rfl, World.ownsRow_nil _ _ _ _, by first | exact below_dq (below_dq (below_one (Below.refl _ _)) _) _ | exact below_dq (below_one (Below.refl _ _)) _⟩
    · rw [decide_eq_false hd] at c1
      have e : E = [] := HTE.out (.inr hd)
      subst e
      clear hd
      go_enter Try.func76, Try.ntmps76
      go_wp2
      go_quiet (fail)
      go_wp2
      go_ret
      exact ⟨_, rfl, World.ownsRow_nil _ _ _ _, below_dq (below_one (Below.refl _ _)) _⟩
end Go.Proofs.Ytljaahheofikpaa
namespace Go.Proofs.Ytljaahheofikpaa
open Go.RowKit
abbrev SlT := Option Addr × Nat × Nat
/-- a slice's head, as the program holds it -/
def slV (x : SlT) : Value := .slice x.1 x.2.1 x.2.2
def elSl : Elt Try.prog SlT where
  st := 99
  et := 48
  enc := fun x => [slV x]
  size := 1
  bytes := 24
  zero := .slice none 0 0
  ok := fun _ => True
  pos := by decide
  small := by decide
  len := fun _ => rfl
  one := by intro x u hu; simp at hu; subst hu; rfl
  ht := Try.underlying99
  info := by kernel_rfl
  zs := rfl
theorem elSl_cells (L : List SlT) : elSl.cells L = L.map slV := by
  unfold Elt.cells
  induction L with
  | nil => rfl
  | cons x L ih => rw [List.flatMap_cons, ih]; rfl
theorem elSl_zeros (n : Nat) : (madeCells #[Value.slice none 0 0] n).toList = elSl.cells (List.replicate n (none, 0, 0)) := by
  rw [elSl_cells, List.map_replicate]
  refine List.ext_getElem? fun j => ?_
  by_cases h : j < n
  · simp [madeCells, h, slV, Nat.mod_one]
  · simp [madeCells, h]
/-- rows of places, each in memory of its own -/
def Nst (W : World) (base ga n : Nat) (F : Nat → List Int) : Prop :=
  ∃ R : List SlT, R.length = n ∧ W.ownsRow base 48 1 (.slice (some ⟨ga, 0, none⟩) n n) n (elSl.cells R) ∧ (∀ (j : Nat) (x : SlT), R[j]? = some x → W.ownsRow base 3 1 (slV x) (F j).length (elInt.cells (F j))) ∧
    ∀ (i j : Nat) (x y : SlT), R[i]? = some x → R[j]? = some y → i ≠ j → ∀ k, (slV x).ownBlock = some k → (slV y).ownBlock ≠ some k
theorem Nst.outs {T : Nat → Prop} {W W' : World} {base ga n : Nat} {F : Nat → List Int} (h : Nst W base ga n F) (ho : Outs T W W') (hT : ∀ i, base ≤ i → i < W.heap.size → ¬ T i) : Nst W' base ga n F := by
  obtain ⟨R, h1, h2, h3, h4⟩ := h
  exact ⟨R, h1, own_outs h2 ho fun k hk => hT k (h2.lt k hk).1 (h2.lt k hk).2, fun j x hx => own_outs (h3 j x hx) ho fun k hk => hT k ((h3 j x hx).lt k hk).1 ((h3 j x hx).lt k hk).2, h4⟩
theorem Nst.below {W W' : World} {base ga n : Nat} {F : Nat → List Int} (h : Nst W base ga n F) (hb : Below W.heap.size W W') : Nst W' base ga n F := h.outs (T := fun _ => False) (Outs.of_below hb) fun _ _ _ h => h
theorem Nst.block {W : World} {base ga n : Nat} {F : Nat → List Int} (h : Nst W base ga n F) : base ≤ ga ∧ ga < W.heap.size := by
  obtain ⟨R, h1, h2, h3, h4⟩ := h
  exact h2.lt ga rfl
/-- the row at a place -/
theorem Nst.at {W : World} {base ga n : Nat} {F : Nat → List Int} (h : Nst W base ga n F) {p : Nat} (hp : p < n) : ∃ x : SlT, W.cell? ⟨ga, p, none⟩ = some (.slice x.1 x.2.1 x.2.2) ∧ W.ownsRow base 3 1 (.slice x.1 x.2.1 x.2.2) (F p).length (elInt.cells (F p)) := by
  obtain ⟨R, h1, h2, h3, h4⟩ := h
  have hx : R[p]? = some (R[p]'(by omega)) := List.getElem?_eq_getElem _
  refine ⟨R[p]'(by omega), ?_, h3 p _ hx⟩
  rw [h2.cellAt p (by omega), elSl_cells, List.getElem?_map, hx]; rfl
/-- one more at a place -/
theorem Nst.more {W : World} {base ga n : Nat} {F : Nat → List Int} (h : Nst W base ga n F) {p : Nat} (hp : p < n) : ∃ x : SlT, W.cell? ⟨ga, p, none⟩ = some (.slice x.1 x.2.1 x.2.2) ∧ W.ownsRow base 3 1 (.slice x.1 x.2.1 x.2.2) (F p).length (elInt.cells (F p)) ∧
    ∀ (o : Obj) (k : Int) (v6 : Value) (w6 : World), w6.ownsRow base 3 1 v6 ((F p).length + 1) (elInt.cells (F p ++ [k])) → (W.alloc o).grownBy w6 (Value.slice x.1 x.2.1 x.2.2).ownBlock → (∀ k, v6.ownBlock = some k → (Value.slice x.1 x.2.1 x.2.2).ownBlock = some k ∨ (W.alloc o).heap.size ≤ k) →
      w6.cell? ⟨ga, p, none⟩ = some (.slice x.1 x.2.1 x.2.2) ∧ w6.frozen? ⟨ga, p, none⟩ = false ∧ Nst (w6.setCell ⟨ga, p, none⟩ v6) base ga n (M.app1 F p k) ∧ Outs (fun i => base ≤ i) W (w6.setCell ⟨ga, p, none⟩ v6) ∧ ∀ B, B < W.heap.size → B ≠ ga → (∀ z e cs, W.heap[B]? = some (.cells cs e z) → e ≠ 3) → (w6.setCell ⟨ga, p, none⟩ v6).heap[B]? = W.heap[B]? := by
  obtain ⟨R, h1, h2, h3, h4⟩ := h
  have hx : R[p]? = some (R[p]'(by omega)) := List.getElem?_eq_getElem _
  have hxo := h3 p _ hx
  generalize R[p]'(by omega) = x at *
  have hcell : W.cell? ⟨ga, p, none⟩ = some (.slice x.1 x.2.1 x.2.2) := by rw [h2.cellAt p (by omega), elSl_cells, List.getElem?_map, hx]; rfl
  refine ⟨x, hcell, hxo, fun o k v6 w6 hown hg hf => ?_⟩
  obtain ⟨ao, m, rfl, _⟩ := own_formq hown
  have hga : (slV x).ownBlock ≠ some ga := own_apartq h2 hxo (by decide) rfl
  have h26 : w6.ownsRow base 48 1 (.slice (some ⟨ga, 0, none⟩) n n) n (elSl.cells R) := (h2.alloc o).kept hg (.inr fun e => hga e.symm)
  have h6g : (Value.slice ao ((F p).length + 1) m).ownBlock ≠ some ga := own_apartq h26 hown (by decide) rfl
  have hO : Outs (fun i => i = ga) w6 (w6.setCell ⟨ga, p, none⟩ (.slice ao ((F p).length + 1) m)) := Outs.set w6 _ rfl
  have hgr : ∀ k, (slV x).ownBlock = some k → base ≤ k := fun k hk => (hxo.lt k hk).1
  refine ⟨(by rw [h26.cellAt p (by omega), elSl_cells, List.getElem?_map, hx]; rfl), h26.frozenAt p, ⟨R.set p (ao, (F p).length + 1, m), by simpa using h1, ?_, ?_, ?_⟩, ?_, ?_⟩
  · have := (h26.stored p (.slice ao ((F p).length + 1) m)).1
    rw [elSl_cells] at this ⊢
    rw [List.map_set]
    exact this
  · intro j y hy
    rw [List.getElem?_set] at hy
    by_cases e : p = j
    · subst e
      rw [if_pos rfl, if_pos (by omega)] at hy
      cases hy
      have e1 : M.app1 F p k p = F p ++ [k] := if_pos rfl
      rw [e1, List.length_append, List.length_singleton]
      exact own_outs hown hO fun q hq e => by subst e; exact h6g hq
    · rw [if_neg e] at hy
      have e1 : M.app1 F p k j = F j := if_neg fun h => e h.symm
      rw [e1]
      have hy6 : w6.ownsRow base 3 1 (slV y) (F j).length (elInt.cells (F j)) := ((h3 j y hy).alloc o).kept hg (by
        cases hb : (slV y).ownBlock with
        | none => exact .inl rfl
        | some q => exact .inr fun e' => h4 p j x y hx hy e q e'.symm hb)
      exact own_outs hy6 hO fun q hq e' => by subst e'; exact own_apartq h26 hy6 (by decide) rfl hq
  · intro i j y z hy hz hij q hq
    rw [List.getElem?_set] at hy hz
    by_cases e : p = i
    · subst e
      rw [if_pos rfl, if_pos (by omega)] at hy
      cases hy
      rw [if_neg hij] at hz
      intro hzq
      rcases hf q hq with h | h
      · exact h4 p j x z hx hz hij q h hzq
      · have := ((h3 j z hz).lt q hzq).2
        simp at h; omega
    · rw [if_neg e] at hy
      by_cases e' : p = j
      · subst e'
        rw [if_pos rfl, if_pos (by omega)] at hz
        cases hz
        intro hzq
        rcases hf q hzq with h | h
        · exact h4 i p y x hy hx hij q hq h
        · have := ((h3 i y hy).lt q hq).2
          simp at h; omega
      · rw [if_neg e'] at hz
        exact h4 i j y z hy hz hij q hq
  · exact (Outs.alloc W o).trans ((Outs.of_grown hg hgr).trans (Outs.set w6 _ (h2.lt ga rfl).1))
  · intro B hB hne hty
    rw [heap_setCell_other w6 ⟨ga, p, none⟩ B _ hne, hg.block B (by simp; omega) fun e => ?_, Below.heap_alloc _ _ _ hB]
    replace e : some B = (slV x).ownBlock := e
    rcases hxo.2 with ⟨e1, _⟩ | ⟨g, cap, cur, e1, _, hgg, _⟩
    · rw [e1] at e; cases e
    · rw [e1] at e
      cases e
      exact hty _ _ _ hgg rfl
end Go.Proofs.Ytljaahheofikpaa
