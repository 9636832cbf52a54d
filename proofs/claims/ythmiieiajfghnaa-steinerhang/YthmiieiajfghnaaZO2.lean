/-
  What the closure that tells whether a node is above a set's leaf comes to, and the children in and out of the tree. Conditions: the boxes hold a height and a set.
-/
import Derived.Test.YthmiieiajfghnaaZF2
import Derived.Test.YthmiieiajfghnaaZO0
import Derived.Test.YthmiieiajfghnaaZO1
import Derived.Test.YthmiieiajfghnaaZW3
namespace Go.Proofs.Ythmiieiajfghnaa
open Go.RowKit
namespace M
theorem getD_rise {L : List Int} (h : L.Pairwise (· < ·)) {a b : Nat} (hab : a ≤ b) (hb : b < L.length) : L[a]?.getD 0 ≤ L[b]?.getD 0 := by
  rcases Nat.lt_or_ge a b with hlt | hge
  · have := List.pairwise_iff_getElem.1 h a b (by omega) hb hlt
    rw [List.getElem?_eq_getElem hb, List.getElem?_eq_getElem (show a < L.length by omega)]
    simp only [Option.getD_some]; omega
  · obtain rfl : a = b := by omega
    exact Int.le_refl _
theorem inT_pos {h : Int} {L : List Int} {n : Int} (hL : L.Pairwise (· < ·)) (hk : okB h n = true) :
    (pos L (low h n) < L.length → inT h L n = decide (L[pos L (low h n)]?.getD 0 ≤ high h n)) ∧ (¬ pos L (low h n) < L.length → inT h L n = false) := by
  constructor
  · intro hp
    rw [Bool.eq_iff_iff, inT_iff, decide_eq_true_eq]
    constructor
    · rintro ⟨_, i, hi, h1, h2⟩
      obtain ⟨a, ha, rfl⟩ := List.mem_iff_getElem.1 hi
      have h3 : ¬ a < pos L (low h n) := fun h => by
        have := (pos_lt hL ha).1 h
        rw [List.getElem?_eq_getElem ha, Option.getD_some] at this
        omega
      have h4 := getD_rise hL (show pos L (low h n) ≤ a by omega) ha
      rw [List.getElem?_eq_getElem ha, Option.getD_some] at h4
      omega
    · intro h2
      have h3 : ¬ L[pos L (low h n)]?.getD 0 < low h n := fun hx => by have := (pos_lt (x := low h n) hL hp).2 hx; omega
      refine ⟨hk, _, ?_, by omega, h2⟩
      rw [List.getElem?_eq_getElem hp, Option.getD_some]
      exact List.getElem_mem hp
  · intro hp
    rw [Bool.eq_false_iff]
    intro hx
    obtain ⟨_, i, hi, h1, h2⟩ := inT_iff.1 hx
    obtain ⟨a, ha, rfl⟩ := List.mem_iff_getElem.1 hi
    have := (pos_lt (x := low h n) hL ha).1 (by omega)
    rw [List.getElem?_eq_getElem ha, Option.getD_some] at this
    omega
end M
theorem us_view {W : World} {v : Value} {L : List Int} (h : Us W v L) : ∃ ao cap, v = .slice ao L.length cap ∧ L.length ≤ 9223372036854775807 ∧ (0 < L.length → ∃ b off, ao = some ⟨b, off, none⟩ ∧ b < W.heap.size) := by
  obtain ⟨ao, cap, h1, h2, h3, h4, h5⟩ := h
  refine ⟨ao, cap, h1, ?_, fun h0 => ?_⟩
  · unfold maxLen at h3; omega
  · obtain ⟨b, off, h6, h7, _⟩ := h5 (by omega)
    exact ⟨b, off, h6, h7⟩
theorem Us.cellAt {W : World} {b off n cap : Nat} {L : List Int} (h : Us W (.slice (some ⟨b, off, none⟩) n cap) L) (j : Nat) (hj : j < L.length) : W.cell? ⟨b, off + j, none⟩ = some (.int .u64 (L[j]?.getD 0)) := by
  obtain ⟨ao, cap', h1, h2, h3, h4, h5⟩ := h
  obtain ⟨b', off', h6, h7, h8⟩ := h5 (by omega)
  cases h1
  cases h6
  exact h8 j hj
set_option maxRecDepth 100000 in
set_option maxHeartbeats 1000000 in
theorem isIn_any (h n : Int) (L : List Int) (H B : Nat) (vl : Value) (W : World) (hs : M.setB h L = true) (hk : M.okB h n = true) (bH : Bk W H (.int .i64 h) 3) (bL : Bk W B vl 22) (u : Us W vl L) :
    Calls Try.prog 68 #[.int .u64 n, .pointer (some ⟨H, 0, none⟩), .pointer (some ⟨B, 0, none⟩)] W fun e w' => e = .returned (.bool (M.inT h L n)) ∧ Below W.heap.size W w' := by
  obtain ⟨s1, s2, s3, s4, hL, s6⟩ := M.set_of hs
  have h0 : 0 ≤ n := by have := (M.ok_of hk).2.2.1; omega
  have h1 : n ≤ 18446744073709551615 := by have := M.ok_lt hk; omega
  have e1 := M.lowV_ok hk
  have e2 := M.highV_ok hk
  have e3 := M.eChk_ok hk
  have cH := bH.cell
  obtain ⟨q1, q2⟩ := M.inT_pos hL hk
  have hlb := M.low_bd hk
  have hp32 := M.p2_32 s2
  obtain ⟨ao, cap, rfl, hmx, hao⟩ := us_view u
  have hpl := M.pos_le L (M.low h n)
  by_cases hp : M.pos L (M.low h n) < L.length
  · obtain ⟨b, off, rfl, hbl⟩ := hao (by omega)
    have q3 := q1 hp
    have hpi : (M.pos L (M.low h n) : Int) < L.length := by omega
    have hy := getD_mem (fun x hx => s6 x hx) _ hp
    obtain ⟨r, hr⟩ : ∃ r, decide (L[M.pos L (M.low h n)]?.getD 0 ≤ M.high h n) = r := ⟨_, rfl⟩
    rw [q3, hr]
    have HC := hidq (fun X (v : Us X (.slice (some ⟨b, off, none⟩) L.length cap) L) => v.cellAt (M.pos L (M.low h n)) hp)
    clear q1 q2 q3 hk hs s4 s6 hao
    go_enter Try.func68, Try.ntmps68
    go_wp2_with (first | (go_at_call 26; refine (leaves_any h n _ h0 h1).mono ?_; rw [e1, e2, e3]; rintro e w1 ⟨rfl, hb1⟩; have bL1 := (bL.below hb1).alloc (.cells #[.int .u64 (M.low h n), .int .u64 (M.high h n)] 41); have cL1 := bL1.cell; have D1 := (Bd.new w1 41 (M.low h n) (M.high h n)); obtain ⟨D1a, D1b⟩ := D1.facts; have u1 := (u.below hb1).alloc (.cells #[.int .u64 (M.low h n), .int .u64 (M.high h n)] 41); have hB1 := below_one (o := (.cells #[.int .u64 (M.low h n), .int .u64 (M.high h n)] 41)) hb1) | (go_at_call 49; refine (search_any L _ _ _ u1 hL (by omega)).mono ?_; rintro e w' ⟨rfl, hw⟩; subst w'))
    have cx := HC.out _ u1
    generalize M.pos L (M.low h n) = p at *
    generalize L[p]?.getD 0 = y at *
    generalize M.high h n = hi at *
    generalize M.low h n = lo at *
    go_region
    all_goals go_wp2
    all_goals go_ret
    all_goals exact ⟨rfl, hB1.drew⟩
  · have q3 := q2 hp
    have hpi : ¬ (M.pos L (M.low h n) : Int) < L.length := by omega
    rw [q3]
    clear q1 q2 q3 hk hs s4 s6 hao
    go_enter Try.func68, Try.ntmps68
    go_wp2_with (first | (go_at_call 26; refine (leaves_any h n _ h0 h1).mono ?_; rw [e1, e2, e3]; rintro e w1 ⟨rfl, hb1⟩; have bL1 := (bL.below hb1).alloc (.cells #[.int .u64 (M.low h n), .int .u64 (M.high h n)] 41); have cL1 := bL1.cell; have D1 := (Bd.new w1 41 (M.low h n) (M.high h n)); obtain ⟨D1a, D1b⟩ := D1.facts; have u1 := (u.below hb1).alloc (.cells #[.int .u64 (M.low h n), .int .u64 (M.high h n)] 41); have hB1 := below_one (o := (.cells #[.int .u64 (M.low h n), .int .u64 (M.high h n)] 41)) hb1) | (go_at_call 49; refine (search_any L _ _ _ u1 hL (by omega)).mono ?_; rintro e w' ⟨rfl, hw⟩; subst w'))
    generalize M.pos L (M.low h n) = p at *
    generalize M.high h n = hi at *
    generalize M.low h n = lo at *
    go_region
    all_goals go_wp2
    all_goals go_ret
    all_goals exact ⟨rfl, hB1.drew⟩
end Go.Proofs.Ythmiieiajfghnaa
