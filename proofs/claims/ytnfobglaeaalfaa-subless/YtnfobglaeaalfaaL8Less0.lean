/-
  Which subset comes first; the parts of a subset, together. Conditions: the numbers fit their kinds.
-/
import Derived.Test.YtnfobglaeaalfaaA10
namespace Go.Proofs.Ytnfobglaeaalfaa
open Go.RowKit
theorem Ss.ptr {W : World} {ao : Option Addr} {n cap : Nat} {S : List (Int × Int)} (h : Ss W (.slice ao n cap) S) : 0 < n → ∃ b off, ao = some ⟨b, off, none⟩ := by
  obtain ⟨a, c, e, h2, _, h5⟩ := h.form
  cases e
  exact fun h0 => h5 (by omega)
theorem M.lss_irr (I J : Int) : M.lssB I J I J = false := by unfold M.lssB; simp
theorem M.lss_iff {I J K L : Int} : M.lssB I J K L = true ↔ I < K ∨ (I = K ∧ J < L) := by unfold M.lssB; simp
def M.sumM (h : Int) : List (Int × Int) → Int
  | [] => 0
  | x :: t => M.manyV h (M.lvs h x.1 x.2) + M.sumM h t
theorem M.sumM_append (h : Int) : ∀ A B : List (Int × Int), M.sumM h (A ++ B) = M.sumM h A + M.sumM h B
  | [], B => by simp [M.sumM]
  | x :: A, B => by simp only [List.cons_append, M.sumM, M.sumM_append h A B]; omega
theorem M.sum_next {h : Int} {P : List (Int × Int)} {k : Nat} {x : Int × Int} (hx : P[k]? = some x) : M.sumM h (P.take (k + 1)) = M.sumM h (P.take k) + M.manyV h (M.lvs h x.1 x.2) := by
  obtain ⟨hk, e⟩ := List.getElem?_eq_some_iff.1 hx
  rw [List.take_succ_eq_append_getElem hk, M.sumM_append, e]
  simp [M.sumM]
theorem M.sum_bd {h : Int} {P : List (Int × Int)} (hP : ∀ y ∈ P, M.subB h y.1 y.2 = true) : ∀ k : Nat, k ≤ 2 → 0 ≤ M.sumM h (P.take k) ∧ M.sumM h (P.take k) ≤ k * 4294967296
  | 0, _ => by simp [M.sumM]
  | k + 1, hk => by
    obtain ⟨h1, h2⟩ := M.sum_bd hP k (by omega)
    by_cases hl : k < P.length
    · have hx : P[k]? = some P[k] := List.getElem?_eq_getElem hl
      rw [M.sum_next hx]
      have hs := hP P[k] (List.getElem_mem hl)
      obtain ⟨-, -, -, -, -, a, b⟩ := M.lvs_facts hs
      have := M.p2_32 (M.ok_of (M.sub_of hs).1).2.1
      omega
    · rw [List.take_of_length_le (by omega)]
      rw [List.take_of_length_le (by omega)] at h1 h2
      omega
theorem M.spl_facts {h I J : Int} (hs : M.subB h I J = true) (h0 : 0 ≤ I) (h1 : I ≤ 18446744073709551615) (h2 : 0 ≤ J) (h3 : J ≤ 18446744073709551615) : (∀ x ∈ M.spl h I J, M.subB h x.1 x.2 = true ∧ M.fitS x) ∧ M.sumM h (M.spl h I J) = M.manyV h (M.lvs h I J) ∧ (M.spl h I J).length ≤ 2 := by
  unfold M.spl
  by_cases hJ : J = 0
  · rw [if_pos hJ]
    refine ⟨?_, by simp [M.sumM], by simp⟩
    intro x hx
    rw [List.mem_singleton] at hx
    subst hx
    exact ⟨hs, ⟨h0, h1⟩, h2, h3⟩
  · rw [if_neg hJ]
    cases hc : M.cutB h I J
    · refine ⟨?_, by simp [M.sumM], by simp⟩
      intro x hx
      simp only [Bool.false_eq_true, if_false, List.mem_singleton] at hx
      subst hx
      exact ⟨hs, ⟨h0, h1⟩, h2, h3⟩
    · obtain ⟨_, _, _, c4, _, c6, c7, _⟩ := M.cut_of hs hJ hc
      have k1 := M.ok_lt c4
      have k2 := (M.ok_of c4).2.2.1
      have hm := (M.cut_parts hs hJ hc).2.2
      refine ⟨?_, by simp [M.sumM, hm], by simp⟩
      intro x hx
      simp only [if_true, List.mem_cons, List.not_mem_nil, or_false] at hx
      rcases hx with rfl | rfl
      · exact ⟨c6, ⟨h0, h1⟩, by dsimp only; omega, by dsimp only; omega⟩
      · exact ⟨c7, ⟨by dsimp only; omega, by dsimp only; omega⟩, h2, h3⟩
end Go.Proofs.Ytnfobglaeaalfaa
