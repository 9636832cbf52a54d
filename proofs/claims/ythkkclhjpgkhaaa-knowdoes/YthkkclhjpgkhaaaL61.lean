/-
  The answers of All: what they hold, one's own of one's own, rising; truth values that are marked. Conditions: each theorem's own premises.
-/
import Derived.Test.YthkkclhjpgkhaaaL60
namespace Go.Proofs.Ythkkclhjpgkhaaa
open Go.RowKit
theorem M.okL_app {A : List M.Tm} {H L : List Int} (h : M.okL A (H ++ L)) : M.okL A (L ++ H) ∧ M.okL A H := by
  have h1 := h.1
  rw [List.length_append] at h1
  exact ⟨⟨by rw [List.length_append]; omega, fun x hx => h.2 x (by rcases List.mem_append.1 hx with h | h <;> simp [h])⟩, by omega, fun x hx => h.2 x (by simp [hx])⟩
theorem all_swap {A : List M.Tm} {H L K : List Int} (h : AllA A (H ++ L) K 0) : AllA A (L ++ H) K 0 := by
  rcases h with ⟨_, h1, h2, f, hf, e⟩ | ⟨h, _⟩
  · refine .inl ⟨rfl, h1, (M.okL_app h2).1, f, fun j => (hf j).trans ⟨fun h => h.sub fun x hx => ?_, fun h => h.sub fun x hx => ?_⟩, e⟩
    · rcases List.mem_append.1 hx with h | h <;> simp [h]
    · rcases List.mem_append.1 hx with h | h <;> simp [h]
  · cases h
theorem all_none {A : List M.Tm} (hA : M.Ok A) : AllA A [] [] 0 := by
  refine .inl ⟨rfl, hA, ⟨by simp, by simp⟩, fun _ => false, fun j => ⟨fun h => (by cases h), fun h => absurd h M.Kn.nil⟩, ?_⟩
  simp [M.outL]
theorem all_mem {A : List M.Tm} {H K : List Int} (h : AllA A H K 0) : (∀ x, x ∈ K ↔ M.Kn A H x) ∧ K.Pairwise (· < ·) ∧ K.length ≤ A.length ∧ (∀ x ∈ K, 0 ≤ x ∧ x < A.length) ∧ M.Ok A ∧ M.okL A H := by
  rcases h with ⟨_, h1, h2, f, hf, rfl⟩ | ⟨h, _⟩
  · exact ⟨M.mem_outL h2.2 hf, M.outL_rising f _, M.outL_len f _, fun x hx => by obtain ⟨j, hj, _, rfl⟩ := (M.outL_mem _ _ _).1 hx; omega, h1, h2⟩
  · cases h
theorem all_fit {A : List M.Tm} {H K : List Int} {er : Int} (h : AllA A H K er) : ∀ x ∈ K, M.fitI x := by
  rcases h with ⟨_, h1, h2, f, hf, rfl⟩ | ⟨_, _, rfl⟩
  · intro x hx
    obtain ⟨j, hj, _, rfl⟩ := (M.outL_mem _ _ _).1 hx
    have := h1.1
    exact ⟨by omega, by omega⟩
  · simp
theorem all_len {A : List M.Tm} {H K : List Int} {er : Int} (h : AllA A H K er) : K.length ≤ 65536 := by
  rcases h with ⟨_, h1, h2, f, hf, rfl⟩ | ⟨_, _, rfl⟩
  · have := M.outL_len f A.length
    have := h1.1
    omega
  · simp
/-- two rising lists: what lies ahead of a place is less -/
theorem rising_lt {K : List Int} (h : K.Pairwise (· < ·)) {i j : Nat} {x y : Int} (hi : K[i]? = some x) (hj : K[j]? = some y) (hij : i < j) : x < y := by
  obtain ⟨h1, rfl⟩ := List.getElem?_eq_some_iff.1 hi
  obtain ⟨h2, rfl⟩ := List.getElem?_eq_some_iff.1 hj
  exact List.pairwise_iff_getElem.1 h i j h1 h2 hij
theorem rising_le {K : List Int} (h : K.Pairwise (· < ·)) {i j : Nat} {x y : Int} (hi : K[i]? = some x) (hj : K[j]? = some y) (hxy : x < y) : i < j := by
  rcases Nat.lt_or_ge i j with h' | h'
  · exact h'
  · rcases Nat.lt_or_ge j i with h'' | h''
    · have := rising_lt h hj hi h''; omega
    · obtain rfl : i = j := by omega
      rw [hi] at hj
      cases hj
      omega
theorem all_again {A : List M.Tm} {H K : List Int} (h : AllA A H K 0) : AllA A K K 0 ∧ ShtA A K true 0 ∧ M.okL A K := by
  obtain ⟨am, _, al, ab, aok, aH⟩ := all_mem h
  have hok : M.okL A K := ⟨by have := aok.1; omega, ab⟩
  refine ⟨?_, .inl ⟨rfl, aok, hok, ⟨fun _ j hj hf => (am j).2 (.shut hj (hf.mono fun x hx => (am x).1 hx)), fun _ => rfl⟩⟩, hok⟩
  rcases h with ⟨_, _, _, f, hf, e⟩ | ⟨h, _⟩
  · exact .inl ⟨rfl, aok, hok, f, fun j => (hf j).trans (M.Kn.idem am).symm, e⟩
  · cases h
theorem mark_store {W : World} {base g n p : Nat} {D : List Int} (h : W.ownsRow base 4 1 (.slice (some ⟨g, 0, none⟩) n n) n (elBool.cells (M.rowB (fun j => decide ((j : Int) ∈ D)) n))) :
    (W.setCell ⟨g, p, none⟩ (.bool true)).ownsRow base 4 1 (.slice (some ⟨g, 0, none⟩) n n) n (elBool.cells (M.rowB (fun j => decide ((j : Int) ∈ D ++ [(p : Int)])) n)) := by
  rw [← M.row_more]
  exact ownB_store h p
theorem take_next {L : List Int} {k : Nat} {x : Int} (h : L[k]? = some x) : L.take (k + 1) = L.take k ++ [x] := by
  obtain ⟨hk, e⟩ := List.getElem?_eq_some_iff.1 h
  rw [List.take_succ_eq_append_getElem hk, e]
end Go.Proofs.Ythkkclhjpgkhaaa
