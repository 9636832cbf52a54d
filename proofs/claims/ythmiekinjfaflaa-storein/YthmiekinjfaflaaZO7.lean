/-
  What the document's own Tree answers: all nodes above leaves of a set, rising. Conditions: the list is a set.
-/
import Derived.Test.YthmiekinjfaflaaZG1
import Derived.Test.YthmiekinjfaflaaZO6
import Derived.Test.YthmiekinjfaflaaZR1
namespace Go.Proofs.Ythmiekinjfaflaa
open Go.RowKit
namespace M
theorem psh_len : ∀ (X acc : List Int), (X.foldl psh acc).length ≤ acc.length + X.length
  | [], _ => by simp
  | x :: t, acc => by
    have h1 := psh_len t (psh acc x)
    have h2 : (psh acc x).length ≤ acc.length + 1 := by
      unfold psh
      split
      · omega
      · simp
    rw [List.foldl_cons, List.length_cons]; omega
theorem psh_none (x : Int) : psh [] x = [x] := rfl
theorem psh_same {C : List Int} {x : Int} (h0 : C.length ≠ 0) (h : C[C.length - 1]?.getD 0 = x) : psh C x = C := by
  unfold psh
  rw [List.getLast?_eq_getElem?, if_pos]
  rw [List.getElem?_eq_getElem (by omega)] at h ⊢
  rw [← h]; rfl
theorem psh_diff {C : List Int} {x : Int} (h : C[C.length - 1]?.getD 0 ≠ x) : psh C x = C ++ [x] := by
  unfold psh
  rw [List.getLast?_eq_getElem?, if_neg]
  intro e
  rw [e] at h
  exact h rfl
/-- what is gathered behind d levels, and k leaves -/
def trk (h : Int) (L : List Int) (d k : Nat) : List Int := ((L.take k).map (anc h d)).foldl psh (tre h L d)
theorem trk_zero (h : Int) (L : List Int) (d : Nat) : trk h L d 0 = tre h L d := rfl
theorem trk_succ {h : Int} {L : List Int} {d k : Nat} (hk : k < L.length) : trk h L d (k + 1) = psh (trk h L d k) (anc h d (L[k]?.getD 0)) := by
  unfold trk
  rw [take_getD k hk, List.map_append, List.foldl_append]; rfl
theorem trk_all {h : Int} {L : List Int} (hs : setB h L = true) {d : Nat} (hd : (d : Int) ≤ h) : trk h L d L.length = tre h L (d + 1) := by
  unfold trk
  rw [List.take_length]; exact tre_next hs d hd
theorem trk_len {h : Int} {L : List Int} (hs : setB h L = true) {d : Nat} (hd : (d : Int) ≤ h) (k : Nat) : (trk h L d k).length ≤ 40000 := by
  have h1 := psh_len ((L.take k).map (anc h d)) (tre h L d)
  have h2 := (tre_facts hs d (by omega)).2.2
  have h3 := set_of hs
  have h4 : d * L.length ≤ 33 * 1024 := Nat.mul_le_mul (by omega) h3.2.2.1
  have h5 : ((L.take k).map (anc h d)).length ≤ L.length := by rw [List.length_map, List.length_take]; omega
  unfold trk
  omega
end M
end Go.Proofs.Ythmiekinjfaflaa
namespace Go.Proofs.Ythmiekinjfaflaa
open Go.RowKit
namespace M
theorem has_tree {h : Int} {L : List Int} (hs : setB h L = true) (x : Int) : has (tree h L) x = inT h L x := by
  rw [Bool.eq_iff_iff, has_iff, (tree_facts hs).2.1]
theorem isV_yes {h : Int} {L : List Int} {n : Int} (hs : setB h L = true) (hk : okB h n = true) : belE h L n = 0 ∧ isV h L n = inT h L n := by
  have e := belE_iff.2 ⟨hs, hk⟩
  refine ⟨e, ?_⟩
  unfold isV
  rw [belV_yes e, inT_bel hk]
theorem isV_no {h : Int} {L : List Int} {n : Int} (hn : (okB h n && setB h L) = false) : belE h L n = 1 ∧ isV h L n = false := by
  have e : belE h L n ≠ 0 := fun e => by
    obtain ⟨h1, h2⟩ := belE_iff.1 e
    rw [h1, h2] at hn; cases hn
  obtain ⟨h1, h2⟩ := belV_no e
  refine ⟨h2, ?_⟩
  unfold isV
  rw [h1]; rfl
theorem may_one (h : Int) (L : List Int) : (okB h 1 && setB h L) = setB h L := by
  rw [ok_one]
  cases hs : setB h L
  · simp
  · have := set_of hs
    rw [ht_mk this.1 this.2.1]; rfl
theorem frk_eq {h : Int} {L : List Int} {n : Int} : frk h L n = (inT h L (2 * n) && inT h L (2 * n + 1)) := by
  unfold frk kid
  by_cases hl : n < p2 h
  · rw [if_pos hl]
    cases h1 : inT h L (2 * n) <;> cases h2 : inT h L (2 * n + 1) <;> simp [h1, h2]
  · rw [if_neg hl]
    cases h1 : inT h L (2 * n)
    · rfl
    · have := (ok_of (inT_iff.1 h1).1).2.2.2
      omega
def outD (h : Int) (L : List Int) (n : Int) (k : Nat) : List Int := (twoK n k).filter (fun c => okB h c && !inT h L c)
theorem outD_zero (h : Int) (L : List Int) (n : Int) : outD h L n 0 = [] := rfl
theorem outD_yes {h : Int} {L : List Int} {n : Int} {k : Nat} (hc : (okB h (2 * n + k) && !inT h L (2 * n + k)) = true) : outD h L n (k + 1) = outD h L n k ++ [2 * n + k] := by
  unfold outD
  rw [twoK_succ, List.filter_append]; simp only [List.filter_cons, List.filter_nil]; rw [if_pos hc]
theorem outD_no {h : Int} {L : List Int} {n : Int} {k : Nat} (hc : (okB h (2 * n + k) && !inT h L (2 * n + k)) = false) : outD h L n (k + 1) = outD h L n k := by
  unfold outD
  rw [twoK_succ, List.filter_append]; simp only [List.filter_cons, List.filter_nil]; rw [if_neg (by rw [hc]; decide), List.append_nil]
theorem outD_two {h : Int} {L : List Int} {n : Int} (hk : okB h n = true) : outD h L n 2 = outk h L n := by
  have e : twoK n 2 = [2 * n, 2 * n + 1] := by simp [twoK, List.range_succ]
  unfold outD outk
  rw [e]
  have kk := ok_of hk
  by_cases hl : n < p2 h
  · rw [if_pos hl]
    have h1 : okB h (2 * n) = true := ok_mk kk.1 kk.2.1 (by omega) (by omega)
    have h2 : okB h (2 * n + 1) = true := ok_mk kk.1 kk.2.1 (by omega) (by omega)
    refine List.filter_congr fun x hx => ?_
    simp at hx
    rcases hx with rfl | rfl
    · rw [h1]; rfl
    · rw [h2]; rfl
  · rw [if_neg hl]
    refine List.filter_eq_nil_iff.2 fun x hx => ?_
    simp at hx
    have : okB h x = false := by
      rw [Bool.eq_false_iff]
      intro ho
      have := (ok_of ho).2.2.2
      omega
    rw [this]; simp
theorem outD_len (h : Int) (L : List Int) (n : Int) (k : Nat) : (outD h L n k).length ≤ k := by
  have e : (twoK n k).length = k := by simp [twoK]
  have h1 : (outD h L n k).length ≤ _ := List.length_filter_le _ _
  omega
theorem flat_len {f : Int → List Int} (hf : ∀ n, (f n).length ≤ 2) : ∀ X : List Int, (X.flatMap f).length ≤ 2 * X.length
  | [] => by simp
  | x :: t => by
    have := flat_len hf t
    have := hf x
    rw [List.flatMap_cons, List.length_append, List.length_cons]; omega
theorem outk_len (h : Int) (L : List Int) (n : Int) : (outk h L n).length ≤ 2 := by
  unfold outk
  split
  · exact List.length_filter_le _ _
  · simp
end M
end Go.Proofs.Ythmiekinjfaflaa
