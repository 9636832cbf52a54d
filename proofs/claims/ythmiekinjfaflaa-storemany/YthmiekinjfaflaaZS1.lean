/-
  A slice of numbers in memory, as a list; it stays while what lay there stays. Small facts. No condition.
-/
import Derived.Test.YthmiekinjfaflaaZLM
import Derived.Test.YthmiekinjfaflaaZR1
import Derived.Deep.RegionWith
namespace Go.Proofs.Ythmiekinjfaflaa
open Go.RowKit
theorem hid {p : Prop} (h : p) : Hid p := h
/-- the slice value v holds the numbers L -/
def Us (W : World) (v : Value) (L : List Int) : Prop :=
  ∃ ao cap, v = .slice ao L.length cap ∧ L.length ≤ cap ∧ cap ≤ maxLen ∧ (∀ x ∈ L, 0 ≤ x ∧ x ≤ 18446744073709551615) ∧
    (0 < cap → ∃ b off, ao = some ⟨b, off, none⟩ ∧ b < W.heap.size ∧ ∀ j, j < L.length → W.cell? ⟨b, off + j, none⟩ = some (.int .u64 (L[j]?.getD 0)))
theorem Us.below {W W' : World} {v : Value} {L : List Int} (h : Us W v L) (hb : Below W.heap.size W W') : Us W' v L := by
  obtain ⟨ao, cap, h1, h2, h3, h4, h5⟩ := h
  refine ⟨ao, cap, h1, h2, h3, h4, fun h0 => ?_⟩
  obtain ⟨b, off, h6, h7, h8⟩ := h5 h0
  exact ⟨b, off, h6, Nat.lt_of_lt_of_le h7 hb.size, fun j hj => (hb.cell (p := ⟨b, off + j, none⟩) h7).trans (h8 j hj)⟩
theorem Us.alloc {W : World} {v : Value} {L : List Int} (h : Us W v L) (o : Obj) : Us (W.alloc o) v L := h.below ((Below.refl _ _).alloc (Nat.le_refl _) o)
theorem getD_mem {L : List Int} {P : Int → Prop} (h : ∀ x ∈ L, P x) (k : Nat) (hk : k < L.length) : P (L[k]?.getD 0) := by
  have : L[k]?.getD 0 = L[k] := by simp [hk]
  rw [this]; exact h _ (List.getElem_mem hk)
theorem drop_getD {L : List Int} (k : Nat) (hk : k < L.length) : L.drop k = L[k]?.getD 0 :: L.drop (k + 1) := by
  rw [List.drop_eq_getElem_cons hk]; simp [hk]
theorem take_getD {L : List Int} (k : Nat) (hk : k < L.length) : L.take (k + 1) = L.take k ++ [L[k]?.getD 0] := by
  rw [List.take_succ_eq_append_getElem hk]; simp [hk]
theorem Us.of_own {W : World} {base : Nat} {e : TypeId} {v : Value} {n : Nat} {L : List Int} (h : W.ownsRow base e 1 v n (u64s L)) (hb : ∀ x ∈ L, 0 ≤ x ∧ x ≤ 18446744073709551615) : Us W v L := by
  have hn : L.length = n := by have := h.1; simpa using this
  rcases h.2 with ⟨h1, h2⟩ | ⟨g, cap, cur, h1, h2, h3, h4, h5, h6, h7⟩
  · exact ⟨none, 0, by rw [h1, hn, h2], by omega, by simp [maxLen], hb, fun h0 => by omega⟩
  · refine ⟨some ⟨g, 0, none⟩, cap, by rw [h1, hn], by omega, h5, hb, fun h0 => ⟨g, 0, rfl, (Array.getElem?_eq_some_iff.1 h3).1, fun j hj => ?_⟩⟩
    subst h1
    rw [Nat.zero_add, h.cellAt j (by omega)]
    unfold u64s
    rw [List.getElem?_map, List.getElem?_eq_getElem hj]
    simp
/-- a part of it -/
theorem Us.part {W : World} {b off cap n : Nat} {L : List Int} (h : Us W (.slice (some ⟨b, off, none⟩) n cap) L) (lo hi : Nat) (h1 : lo ≤ hi) (h2 : hi ≤ n) (h3 : ¬ cap = lo) : Us W (.slice (some ⟨b, off + lo, none⟩) (hi - lo) (cap - lo)) ((L.drop lo).take (hi - lo)) := by
  obtain ⟨ao, cap', e, q1, q2, q3, q4⟩ := h
  simp only [Value.slice.injEq] at e
  obtain ⟨rfl, rfl, rfl⟩ := e
  obtain ⟨b', off', e, q5, q6⟩ := q4 (by omega)
  cases e
  have hlen : ((L.drop lo).take (hi - lo)).length = hi - lo := by simp; omega
  refine ⟨_, _, by rw [hlen], by omega, by omega, fun x hx => q3 x (List.mem_of_mem_drop (List.mem_of_mem_take hx)), fun _ => ⟨b, off + lo, rfl, q5, fun j hj => ?_⟩⟩
  rw [hlen] at hj
  rw [Nat.add_assoc, q6 (lo + j) (by omega), List.getElem?_take, if_pos hj, List.getElem?_drop]
theorem Us.empty {W : World} {ao : Option Addr} : Us W (.slice ao 0 0) [] := ⟨ao, 0, rfl, by simp, by simp [maxLen], by simp, fun h => by omega⟩
theorem Us.fits {W : World} {v : Value} {L : List Int} (h : Us W v L) : ∀ x ∈ L, 0 ≤ x ∧ x ≤ 18446744073709551615 := by
  obtain ⟨_, _, _, _, _, q, _⟩ := h; exact q
theorem Us.drew {W : World} {v : Value} {L : List Int} (h : Us W v L) : Us W.drew v L := h.below (Below.refl _ _).drew
theorem Us.nil (W : World) : Us W (.slice none 0 0) [] := ⟨none, 0, rfl, by simp, by simp [maxLen], by simp, fun h => by simp at h⟩
end Go.Proofs.Ythmiekinjfaflaa
namespace Go.Proofs.Ythmiekinjfaflaa
open Go.RowKit
def M.lastV (h : Int) : Int := if M.htB h then M.p2 h - 1 else 0
def M.setLast (h : Int) (L : List Int) : Int := if M.setB h L then M.p2 h - 1 else 0
def M.lastE (h : Int) : Int := if M.htB h then 0 else 1
end Go.Proofs.Ythmiekinjfaflaa
namespace Go.Proofs.Ythmiekinjfaflaa
open Go.RowKit
namespace M
theorem rising_lt {L : List Int} (h : L.Pairwise (· < ·)) {a b : Nat} (hab : a < b) (hb : b < L.length) : L[a]?.getD 0 < L[b]?.getD 0 := by
  have := List.pairwise_iff_getElem.1 h a b (by omega) hb hab
  simpa [show a < L.length by omega, hb] using this
theorem pos_lt {L : List Int} {x : Int} (h : L.Pairwise (· < ·)) {a : Nat} (ha : a < L.length) : a < pos L x ↔ L[a]?.getD 0 < x := by
  have hp := partsL x h
  have hg : L[a]? = (L.filter (fun y => decide (y < x)) ++ L.filter (fun y => decide (x ≤ y)))[a]? := by rw [hp]
  constructor
  · intro hlt
    rw [List.getElem?_append_left hlt] at hg
    have hm := List.getElem_mem hlt
    rw [hg, List.getElem?_eq_getElem hlt]
    simpa using (List.mem_filter.1 hm).2
  · intro hlt
    apply Classical.byContradiction
    intro hge
    rw [List.getElem?_append_right (by unfold pos at hge; omega)] at hg
    have hlen : (L.filter (fun y => decide (y < x))).length + (L.filter (fun y => decide (x ≤ y))).length = L.length := by
      rw [← List.length_append, hp]
    have hin : a - (L.filter (fun y => decide (y < x))).length < (L.filter (fun y => decide (x ≤ y))).length := by unfold pos at hge; omega
    have hm := List.getElem_mem hin
    rw [hg, List.getElem?_eq_getElem hin] at hlt
    have := (List.mem_filter.1 hm).2
    simp at this hlt
    omega
theorem has_pos {L : List Int} {x : Int} (h : L.Pairwise (· < ·)) : has L x = true ↔ pos L x < L.length ∧ L[pos L x]?.getD 0 = x := by
  constructor
  · intro hh
    have h1 := drop_pos (i := x) h
    rw [filter_ge_in h hh] at h1
    have h2 := (out_parts h hh).1
    have h3 := congrArg (fun l => l[0]?) h1
    simp at h3
    exact ⟨by omega, by rw [h3]; rfl⟩
  · rintro ⟨h1, h2⟩
    unfold has
    simp only [decide_eq_true_eq]
    rw [← h2]
    simp only [h1, getElem?_pos, Option.getD_some]
    exact List.getElem_mem h1
end M
end Go.Proofs.Ythmiekinjfaflaa
namespace Go.Proofs.Ythmiekinjfaflaa
open Go.RowKit
theorem M.setE_yes {h : Int} {L : List Int} (hs : M.setB h L = true) : M.setE h L = 0 := by unfold M.setE; rw [hs]; rfl
theorem M.setE_no {h : Int} {L : List Int} (hs : M.setB h L = false) : M.setE h L = 1 := by unfold M.setE; rw [hs]; rfl
theorem M.leafE_is {h i : Int} (hs : M.isB h i = true) : M.leafE h i = 0 := by
  unfold M.isB at hs
  simp only [Bool.and_eq_true, decide_eq_true_eq] at hs
  exact M.leafE_yes (M.ht_of hs.1).1 (M.ht_of hs.1).2 hs.2
theorem M.leafE_isnt {h i : Int} (hs : M.isB h i = false) : (M.leafE h i != 0) = true := by
  rw [bne_iff_ne]
  intro e
  unfold M.leafE at e
  unfold M.isB at hs
  cases hh : M.htB h
  · rw [hh] at e; simp at e
  · rw [hh] at e hs; simp at e hs; omega
end Go.Proofs.Ythmiekinjfaflaa
