/-
  What the closure that tells whether a node is above a set's leaf comes to, and the children in and out of the tree. Conditions: the boxes hold a height and a set.
-/
import Derived.Test.YtmicgojojkkkhaaGreatZG1
import Derived.Test.YtmicgojojkkkhaaGreatZO0
import Derived.Test.YtmicgojojkkkhaaGreatZO1
import Derived.Test.YtmicgojojkkkhaaGreatZS1
import Derived.Test.YtmicgojojkkkhaaGreatZW1
namespace Go.Proofs.YtmicgojojkkkhaaGreat
open Go.RowKit
namespace M
theorem getD_rise {L : List Int} (h : L.Pairwise (· < ·)) {a b : Nat} (hab : a ≤ b) (hb : b < L.length) : L[a]?.getD 0 ≤ L[b]?.getD 0 := by
  rcases Nat.lt_or_ge a b with hlt | hge
  · have := List.pairwise_iff_getElem.1 h a b (by omega) hb hlt
    rw [List.getElem?_eq_getElem hb, List.getElem?_eq_getElem (show a < L.length by omega)]
    simp only [Option.getD_some]; omega
  · obtain rfl : a = b := by omega
    exact Int.le_refl _
theorem inT_pos {h : Int} {L : List Int} {n : Int} (hL : L.Pairwise (· < ·)) (hk : okB h n = true) :
    (pos L (low h n) < L.length → inT h L n = decide (L[pos L (low h n)]?.getD 0 ≤ high h n)) ∧ (¬ pos L (low h n) < L.length → inT h L n = false) := by
  constructor
  · intro hp
    rw [Bool.eq_iff_iff, inT_iff, decide_eq_true_eq]
    constructor
    · rintro ⟨_, i, hi, h1, h2⟩
      obtain ⟨a, ha, rfl⟩ := List.mem_iff_getElem.1 hi
      have h3 : ¬ a < pos L (low h n) := fun h => by
        have := (pos_lt hL ha).1 h
        rw [List.getElem?_eq_getElem ha, Option.getD_some] at this
        omega
      have h4 := getD_rise hL (show pos L (low h n) ≤ a by omega) ha
      rw [List.getElem?_eq_getElem ha, Option.getD_some] at h4
      omega
    · intro h2
      have h3 : ¬ L[pos L (low h n)]?.getD 0 < low h n := fun hx => by have := (pos_lt (x := low h n) hL hp).2 hx; omega
      refine ⟨hk, _, ?_, by omega, h2⟩
      rw [List.getElem?_eq_getElem hp, Option.getD_some]
      exact List.getElem_mem hp
  · intro hp
    rw [Bool.eq_false_iff]
    intro hx
    obtain ⟨_, i, hi, h1, h2⟩ := inT_iff.1 hx
    obtain ⟨a, ha, rfl⟩ := List.mem_iff_getElem.1 hi
    have := (pos_lt (x := low h n) hL ha).1 (by omega)
    rw [List.getElem?_eq_getElem ha, Option.getD_some] at this
    omega
end M
theorem us_view {W : World} {v : Value} {L : List Int} (h : Us W v L) : ∃ ao cap, v = .slice ao L.length cap ∧ L.length ≤ 9223372036854775807 ∧ (0 < L.length → ∃ b off, ao = some ⟨b, off, none⟩ ∧ b < W.heap.size) := by
  obtain ⟨ao, cap, h1, h2, h3, h4, h5⟩ := h
  refine ⟨ao, cap, h1, ?_, fun h0 => ?_⟩
  · unfold maxLen at h3; omega
  · obtain ⟨b, off, h6, h7, _⟩ := h5 (by omega)
    exact ⟨b, off, h6, h7⟩
theorem Us.cellAt {W : World} {b off n cap : Nat} {L : List Int} (h : Us W (.slice (some ⟨b, off, none⟩) n cap) L) (j : Nat) (hj : j < L.length) : W.cell? ⟨b, off + j, none⟩ = some (.int .u64 (L[j]?.getD 0)) := by
  obtain ⟨ao, cap', h1, h2, h3, h4, h5⟩ := h
  obtain ⟨b', off', h6, h7, h8⟩ := h5 (by omega)
  cases h1
  cases h6
  exact h8 j hj
set_option maxRecDepth 100000 in
set_option maxHeartbeats 1000000 in
theorem isIn_any (h n : Int) (L : List Int) (H B : Nat) (vl : Value) (W : World) (hs : M.setB h L = true) (hk : M.okB h n = true) (bH : Bk W H (.int .i64 h) 3) (bL : Bk W B vl 22) (u : Us W vl L) :
    Calls Tryz.prog 106 #[.int .u64 n, .pointer (some ⟨H, 0, none⟩), .pointer (some ⟨B, 0, none⟩)] W fun e w' => e = .returned (.bool (M.inT h L n)) ∧ Below W.heap.size W w' := by
  obtain ⟨s1, s2, s3, s4, hL, s6⟩ := M.set_of hs
  have h0 : 0 ≤ n := by have := (M.ok_of hk).2.2.1; omega
  have h1 : n ≤ 18446744073709551615 := by have := M.ok_lt hk; omega
  have e1 := M.lowV_ok hk
  have e2 := M.highV_ok hk
  have e3 := M.eChk_ok hk
  have cH := bH.cell
  obtain ⟨q1, q2⟩ := M.inT_pos hL hk
  have hlb := M.low_bd hk
  have hp32 := M.p2_32 s2
  obtain ⟨ao, cap, rfl, hmx, hao⟩ := us_view u
  have hpl := M.pos_le L (M.low h n)
  by_cases hp : M.pos L (M.low h n) < L.length
  · obtain ⟨b, off, rfl, hbl⟩ := hao (by omega)
    have q3 := q1 hp
    have hpi : (M.pos L (M.low h n) : Int) < L.length := by omega
    have hy := getD_mem (fun x hx => s6 x hx) _ hp
    obtain ⟨r, hr⟩ : ∃ r, decide (L[M.pos L (M.low h n)]?.getD 0 ≤ M.high h n) = r := ⟨_, rfl⟩
    rw [q3, hr]
    have HC := hidq (fun X (v : Us X (.slice (some ⟨b, off, none⟩) L.length cap) L) => v.cellAt (M.pos L (M.low h n)) hp)
    clear q1 q2 q3 hk hs s4 s6 hao
    go_enter Tryz.func106, Tryz.ntmps106
    go_wp2_with (first | (go_at_call 55; refine (leaves_any h n _ h0 h1).mono ?_; rw [e1, e2, e3]; rintro e w1 ⟨rfl, hb1⟩; have bL1 := (bL.below hb1).alloc (.cells #[.int .u64 (M.low h n), .int .u64 (M.high h n)] 63); have cL1 := bL1.cell; have D1 := (Bd.new w1 63 (M.low h n) (M.high h n)); obtain ⟨D1a, D1b⟩ := D1.facts; have u1 := (u.below hb1).alloc (.cells #[.int .u64 (M.low h n), .int .u64 (M.high h n)] 63); have hB1 := below_one (o := (.cells #[.int .u64 (M.low h n), .int .u64 (M.high h n)] 63)) hb1) | (go_at_call 92; refine (search_any L _ _ _ u1 hL (by omega)).mono ?_; rintro e w' ⟨rfl, hw⟩; subst w'))
    have cx := HC.out _ u1
    generalize M.pos L (M.low h n) = p at *
    generalize L[p]?.getD 0 = y at *
    generalize M.high h n = hi at *
    generalize M.low h n = lo at *
    go_region
    all_goals go_wp2
    all_goals go_ret
    all_goals exact ⟨rfl, hB1.drew⟩
  · have q3 := q2 hp
    have hpi : ¬ (M.pos L (M.low h n) : Int) < L.length := by omega
    rw [q3]
    clear q1 q2 q3 hk hs s4 s6 hao
    go_enter Tryz.func106, Tryz.ntmps106
    go_wp2_with (first | (go_at_call 55; refine (leaves_any h n _ h0 h1).mono ?_; rw [e1, e2, e3]; rintro e w1 ⟨rfl, hb1⟩; have bL1 := (bL.below hb1).alloc (.cells #[.int .u64 (M.low h n), .int .u64 (M.high h n)] 63); have cL1 := bL1.cell; have D1 := (Bd.new w1 63 (M.low h n) (M.high h n)); obtain ⟨D1a, D1b⟩ := D1.facts; have u1 := (u.below hb1).alloc (.cells #[.int .u64 (M.low h n), .int .u64 (M.high h n)] 63); have hB1 := below_one (o := (.cells #[.int .u64 (M.low h n), .int .u64 (M.high h n)] 63)) hb1) | (go_at_call 92; refine (search_any L _ _ _ u1 hL (by omega)).mono ?_; rintro e w' ⟨rfl, hw⟩; subst w'))
    generalize M.pos L (M.low h n) = p at *
    generalize M.high h n = hi at *
    generalize M.low h n = lo at *
    go_region
    all_goals go_wp2
    all_goals go_ret
    all_goals exact ⟨rfl, hB1.drew⟩
end Go.Proofs.YtmicgojojkkkhaaGreat
namespace Go.Proofs.YtmicgojojkkkhaaGreat
open Go.RowKit
namespace M
def twoK (n : Int) (k : Nat) : List Int := (List.range k).map fun (s : Nat) => 2 * n + s
def kidK (h : Int) (L : List Int) (n : Int) (k : Nat) : List Int := (twoK n k).filter (inT h L)
def outK (h : Int) (L : List Int) (n : Int) (k : Nat) : List Int := (twoK n k).filter (fun c => !inT h L c)
theorem twoK_succ (n : Int) (k : Nat) : twoK n (k + 1) = twoK n k ++ [2 * n + k] := by unfold twoK; rw [List.range_succ, List.map_append]; rfl
theorem kidK_yes {h : Int} {L : List Int} {n : Int} {k : Nat} (hc : inT h L (2 * n + k) = true) : kidK h L n (k + 1) = kidK h L n k ++ [2 * n + k] ∧ outK h L n (k + 1) = outK h L n k := by
  unfold kidK outK
  rw [twoK_succ, List.filter_append, List.filter_append]; simp [hc]
theorem kidK_no {h : Int} {L : List Int} {n : Int} {k : Nat} (hc : inT h L (2 * n + k) = false) : kidK h L n (k + 1) = kidK h L n k ∧ outK h L n (k + 1) = outK h L n k ++ [2 * n + k] := by
  unfold kidK outK
  rw [twoK_succ, List.filter_append, List.filter_append]; simp [hc]
theorem kidK_two {h : Int} {L : List Int} {n : Int} (hl : n < p2 h) : kidK h L n 2 = kid h L n ∧ outK h L n 2 = outk h L n := by
  have e : twoK n 2 = [2 * n, 2 * n + 1] := by simp [twoK, List.range_succ]
  unfold kidK outK kid outk
  rw [if_pos hl, if_pos hl, e]; exact ⟨rfl, rfl⟩
theorem kidK_len (h : Int) (L : List Int) (n : Int) (k : Nat) : (kidK h L n k).length ≤ k ∧ (outK h L n k).length ≤ k := by
  have e : (twoK n k).length = k := by simp [twoK]
  have h1 : (kidK h L n k).length ≤ _ := List.length_filter_le _ _
  have h2 : (outK h L n k).length ≤ _ := List.length_filter_le _ _
  rw [e] at h1 h2
  exact ⟨h1, h2⟩
end M
theorem qu_beside {W W' : World} {base : Nat} {e : TypeId} {x y : Value} {B : List Int} (g : W.grownBy W' (qblk x)) (QY : Qu W base e y B) (hap : ∀ k, qblk x = some k → qblk y ≠ some k) : Qu W' base e y B :=
  QY.kept fun k hk => g.block k (QY.lt k hk).2 fun e => hap k e.symm hk
theorem qu_apart {W : World} {base : Nat} {e : TypeId} {x x' y : Value} {B : List Int} (hn : ∀ k, qblk x' = some k → qblk x = some k ∨ W.heap.size ≤ k) (QY : Qu W base e y B) (hap : ∀ k, qblk x = some k → qblk y ≠ some k) : ∀ k, qblk x' = some k → qblk y ≠ some k := by
  intro k hk he
  rcases hn k hk with h | h
  · exact hap k h he
  · have := (QY.lt k he).2; omega
theorem qu_flip {x y : Value} (hap : ∀ k, qblk x = some k → qblk y ≠ some k) : ∀ k, qblk y = some k → qblk x ≠ some k := fun k h1 h2 => hap k h2 h1
theorem below_qu {s : Nat} {W0 W W' : World} {base : Nat} {e : TypeId} {x : Value} {A : List Int} (hb : Below s W0 W) (g : W.grownBy W' (qblk x)) (Q : Qu W base e x A) (hs : s ≤ base) (hs2 : s ≤ W.heap.size) : Below s W0 W' :=
  hb.grown g hs2 fun k hk => by have := (Q.lt k hk).1; omega
set_option maxRecDepth 100000 in
set_option maxHeartbeats 4000000 in
theorem children_any (h n : Int) (L : List Int) (H B : Nat) (vl : Value) (w : World) (hs : M.setB h L = true) (hk : M.okB h n = true) (bH : Bk w H (.int .i64 h) 3) (bL : Bk w B vl 22) (u : Us w vl L) :
    Calls Tryz.prog 91 #[.int .i64 h, .int .u64 n, (.func (.func 106) #[] #[.pointer (some ⟨H, 0, none⟩), .pointer (some ⟨B, 0, none⟩)])] w fun e w' => ∃ vi vo, e = .returned (.tuple #[vi, vo]) ∧ Qu w' w.heap.size 23 vi (M.kid h L n) ∧ Qu w' w.heap.size 23 vo (M.outk h L n) ∧ Below w.heap.size w w' := by
  obtain ⟨i0, hi, hz0, hz1, hz2⟩ := info_parts Tryz.infoU64
  have h0 : 0 ≤ n := by have := (M.ok_of hk).2.2.1; omega
  have h1 : n ≤ 18446744073709551615 := by have := M.ok_lt hk; omega
  have hn2 := M.ok_lt hk
  have HS := hidq hs
  have BH := hidq bH
  have BL := hidq bL
  have UL := hidq u
  by_cases hl : n < M.p2 h
  · obtain ⟨k1, k2⟩ := M.kidK_two (L := L) hl
    rw [← k1, ← k2]
    have HC := hidq (fun (k : Nat) (hk2 : k < 2) => show M.childE h n k = 0 ∧ M.childV h n k = 2 * n + k ∧ M.okB h (2 * n + k) = true by
      have e := M.childE_yes hk (s := (k : Int)) (by omega) hl
      exact ⟨e, by unfold M.childV; rw [if_pos e], M.ok_child hk (by omega) hl⟩)
    clear k1 k2 hk bH bL u hs hl
    go_enter Tryz.func91, Tryz.ntmps91
    go_wp2
    go_loopw [11, 6, 7] (fun s x y wr => ∃ (k : Nat), k ≤ 2 ∧ s = .int .i64 k ∧ Qu wr w.heap.size 23 x (M.kidK h L n k) ∧ Qu wr w.heap.size 23 y (M.outK h L n k) ∧ (∀ g, qblk x = some g → qblk y ≠ some g) ∧ Below w.heap.size w wr) (fun s _ _ _ => 2 - (intOf s).toNat)
    case atStart => exact ⟨0, by omega, rfl, Qu.nil _ _ _ _, Qu.nil _ _ _ _, (fun g hg => by cases hg), Below.refl _ _⟩
    case round =>
      obtain ⟨k, hk, rfl, qx, qy, hap, hb⟩ := hrel
      obtain ⟨ax, cx, rfl, _⟩ := qx.form
      obtain ⟨ay, cy, rfl, _⟩ := qy.form
      have QX := hidq qx
      have QY := hidq qy
      have AP := hidq hap
      have BB := hidq hb
      have hl2 := M.kidK_len h L n k
      clear qx qy hap hb
      by_cases hlt : k < 2
      · obtain ⟨c1, c2, c3⟩ := HC.out k hlt
        have HOK := hidq c3
        have hki : (k : Int) < 2 := by omega
        have hcb : 0 ≤ 2 * n + k ∧ 2 * n + k ≤ 18446744073709551615 := by omega
        cases hin : M.inT h L (2 * n + k) with
        | true =>
          have HX := hidq (M.kidK_yes hin)
          generalize hA : M.kidK h L n k = A at *
          generalize hA' : M.outK h L n k = A' at *
          obtain ⟨c, hc⟩ : ∃ c, 2 * n + (k : Int) = c := ⟨_, rfl⟩
          rw [hc] at c2 HOK hin hcb HX
          clear hA hA' c3 hc
          go_wp2_with (first | (go_at_call 72; refine (child_any h n _ _ h0 h1).mono ?_; rw [c1, c2]; rintro e w' ⟨rfl, hw⟩; subst w') | (go_at_call 106; refine (isIn_any h _ L H B vl _ HS.out HOK.out (BH.out.below BB.out) (BL.out.below BB.out) (UL.out.below BB.out)).mono ?_; rw [hin]; rintro rr w2 ⟨rfl, hb2⟩; have QX2 := hidq (QX.out.below hb2); have QY2 := hidq (QY.out.below hb2); have BB2 := hidq (below_trans BB.out hb2)) | (at_builtin; refine wpList_append_qu rfl _ _ 22 rfl w.heap.size 23 i0 Tryz.underlying22 hi hz0 hz1 hz2 _ A rfl (QX2.out.alloc (.cells #[.int .u64 c] 23)) _ [c] rfl (Us.one _ _ _ (by omega) (by omega)) (by simp only [List.length_cons, List.length_nil]; omega) (by have := BB2.out.size; simp; omega) ?_; intro v3 w3 q3 g3 n3; obtain ⟨ao3, cap3, rfl, _⟩ := q3.form; simp only [List.length_append, List.length_cons, List.length_nil, Nat.zero_add] at q3 n3; have Q3 := hidq q3; have QO3 := hidq (qu_beside g3 (QY2.out.alloc (.cells #[.int .u64 c] 23)) AP.out); have AP3 := hidq (qu_apart n3 (QY2.out.alloc (.cells #[.int .u64 c] 23)) AP.out); have B3 := hidq (below_qu (below_one (o := (.cells #[.int .u64 c] 23)) BB2.out) g3 (QX2.out.alloc (.cells #[.int .u64 c] 23)) (Nat.le_refl _) (by have := BB2.out.size; simp; omega)); clear q3 g3 n3))
          go_roundw
          case rel => exact ⟨k + 1, by omega, by go_num, by rw [HX.out.1]; exact Q3.out, by rw [HX.out.2]; exact QO3.out, AP3.out, B3.out⟩
          case measure => simp [intOf]; omega
        | false =>
          have HX := hidq (M.kidK_no hin)
          generalize hA : M.kidK h L n k = A at *
          generalize hA' : M.outK h L n k = A' at *
          obtain ⟨c, hc⟩ : ∃ c, 2 * n + (k : Int) = c := ⟨_, rfl⟩
          rw [hc] at c2 HOK hin hcb HX
          clear hA hA' c3 hc
          go_wp2_with (first | (go_at_call 72; refine (child_any h n _ _ h0 h1).mono ?_; rw [c1, c2]; rintro e w' ⟨rfl, hw⟩; subst w') | (go_at_call 106; refine (isIn_any h _ L H B vl _ HS.out HOK.out (BH.out.below BB.out) (BL.out.below BB.out) (UL.out.below BB.out)).mono ?_; rw [hin]; rintro rr w2 ⟨rfl, hb2⟩; have QX2 := hidq (QX.out.below hb2); have QY2 := hidq (QY.out.below hb2); have BB2 := hidq (below_trans BB.out hb2)) | (at_builtin; refine wpList_append_qu rfl _ _ 22 rfl w.heap.size 23 i0 Tryz.underlying22 hi hz0 hz1 hz2 _ A' rfl (QY2.out.alloc (.cells #[.int .u64 c] 23)) _ [c] rfl (Us.one _ _ _ (by omega) (by omega)) (by simp only [List.length_cons, List.length_nil]; omega) (by have := BB2.out.size; simp; omega) ?_; intro v3 w3 q3 g3 n3; obtain ⟨ao3, cap3, rfl, _⟩ := q3.form; simp only [List.length_append, List.length_cons, List.length_nil, Nat.zero_add] at q3 n3; have Q3 := hidq q3; have QO3 := hidq (qu_beside g3 (QX2.out.alloc (.cells #[.int .u64 c] 23)) (qu_flip AP.out)); have AP3 := hidq (qu_apart n3 (QX2.out.alloc (.cells #[.int .u64 c] 23)) (qu_flip AP.out)); have B3 := hidq (below_qu (below_one (o := (.cells #[.int .u64 c] 23)) BB2.out) g3 (QY2.out.alloc (.cells #[.int .u64 c] 23)) (Nat.le_refl _) (by have := BB2.out.size; simp; omega)); clear q3 g3 n3))
          go_roundw
          case rel => exact ⟨k + 1, by omega, by go_num, by rw [HX.out.1]; exact QO3.out, by rw [HX.out.2]; exact Q3.out, qu_flip AP3.out, B3.out⟩
          case measure => simp [intOf]; omega
      · obtain rfl : k = 2 := by omega
        have hki : ¬ ((2 : Nat) : Int) < 2 := by omega
        go_wp2
        go_ret2
        exact ⟨_, _, rfl, QX.out, QY.out, BB.out⟩
  · have c1 : M.childE h n 0 = 4 := M.childE_no hk (.inl rfl) hl
    have c2 : M.childV h n 0 = 0 := by unfold M.childV; rw [c1]; rfl
    have ek : M.kid h L n = [] := by unfold M.kid; rw [if_neg hl]
    have eo : M.outk h L n = [] := by unfold M.outk; rw [if_neg hl]
    rw [ek, eo]
    clear ek eo hk bH bL u hs hl
    go_enter Tryz.func91, Tryz.ntmps91
    go_wp2
    refine wp_loop_rounds 1 ?_
    rw [rounds_succ]
    go_wp2_with (first | (go_at_call 72; refine (child_any h n _ _ h0 h1).mono ?_; rw [c1, c2]; rintro e w' ⟨rfl, hw⟩; subst w'))
    go_ret2
    exact ⟨_, _, rfl, Qu.nil _ _ _ _, Qu.nil _ _ _ _, Below.refl _ _⟩
end Go.Proofs.YtmicgojojkkkhaaGreat
namespace Go.Proofs.YtmicgojojkkkhaaGreat
open Go.RowKit
/-- outside a territory all stays -/
structure Ows (T : Nat → Prop) (w w' : World) : Prop where
  os : w'.os = w.os
  tape : w'.tape = w.tape
  output : w'.output = w.output
  size : w.heap.size ≤ w'.heap.size
  block : ∀ i, i < w.heap.size → ¬ T i → w'.heap[i]? = w.heap[i]?
theorem Ows.of_grown {T : Nat → Prop} {w w' : World} {row : Option Nat} (h : w.grownBy w' row) (hr : ∀ k, row = some k → T k) : Ows T w w' :=
  ⟨h.os, h.tape, h.output, h.size, fun i hi ht => h.block i hi fun e => ht (hr i e.symm)⟩
theorem Ows.trans {T : Nat → Prop} {a b c : World} (h : Ows T a b) (k : Ows T b c) : Ows T a c :=
  ⟨k.os.trans h.os, k.tape.trans h.tape, k.output.trans h.output, Nat.le_trans h.size k.size, fun i hi ht => (k.block i (Nat.lt_of_lt_of_le hi h.size) ht).trans (h.block i hi ht)⟩
theorem Ows.alloc (T : Nat → Prop) (w : World) (o : Obj) : Ows T w (w.alloc o) := Ows.of_grown (World.grownBy_alloc w o none) fun _ e => by cases e
/-- a box of a number, and its territory -/
def MS (W : World) (B : Nat) (T : Nat → Prop) (m : Int) : Prop := Bk W B (.int .i64 m) 3 ∧ T B ∧ ∀ k, T k → k < W.heap.size
/-- a box of a row of numbers, and its territory -/
def RS (W : World) (s B : Nat) (T : Nat → Prop) (L : List Int) : Prop := ∃ f, Bk W B f 22 ∧ Qu W s 23 f L ∧ T B ∧ (∀ k, qblk f = some k → T k) ∧ ∀ k, T k → k < W.heap.size
theorem MS.kept {W W' : World} {B : Nat} {T : Nat → Prop} {m : Int} (h : MS W B T m) (hk : ∀ k, T k → W'.heap[k]? = W.heap[k]?) (hz : W.heap.size ≤ W'.heap.size) : MS W' B T m :=
  ⟨h.1.kept (hk B h.2.1), h.2.1, fun k ht => by have := h.2.2 k ht; omega⟩
theorem RS.kept {W W' : World} {s B : Nat} {T : Nat → Prop} {L : List Int} (h : RS W s B T L) (hk : ∀ k, T k → W'.heap[k]? = W.heap[k]?) (hz : W.heap.size ≤ W'.heap.size) : RS W' s B T L := by
  obtain ⟨f, h1, h2, h3, h4, h5⟩ := h
  exact ⟨f, h1.kept (hk B h3), h2.kept fun k hq => hk k (h4 k hq), h3, h4, fun k ht => by have := h5 k ht; omega⟩
theorem MS.size {W : World} {B : Nat} {T : Nat → Prop} {m : Int} (h : MS W B T m) : ∀ k, T k → k < W.heap.size := h.2.2
theorem RS.size {W : World} {s B : Nat} {T : Nat → Prop} {L : List Int} (h : RS W s B T L) : ∀ k, T k → k < W.heap.size := by
  obtain ⟨_, _, _, _, _, h5⟩ := h; exact h5
theorem qu_bk {W : World} {B : Nat} {v : Value} {t : TypeId} (hb : Bk W B v t) {s : Nat} {e : TypeId} {f : Value} {L : List Int} (hq : Qu W s e f L) (hne : t ≠ e) : ∀ k, qblk f = some k → k ≠ B := by
  obtain ⟨ao, cap, rfl, h2, h3, h4, h5⟩ := hq
  intro k hk he
  subst he
  obtain ⟨h0, a, e1, e2⟩ := qblk_some hk
  obtain ⟨g, off, cur, e3, h6, h7, _⟩ := h5 h0
  rw [e1] at e3
  cases e3
  cases e2
  have h' : W.heap[g]? = _ := hb
  rw [h'] at h7
  simp only [Option.some.injEq, Obj.cells.injEq] at h7
  exact hne h7.2.1
set_option maxRecDepth 100000 in
/-- a box's row is appended to, and stored -/
theorem rs_next {W w0 w3 : World} {s B : Nat} {T : Nat → Prop} {f v : Value} {L L' : List Int} (hT : T B) (hfT : ∀ k, qblk f = some k → T k) (hsz : ∀ k, T k → k < W.heap.size)
    (h0 : Ows T W w0) (hq0 : Qu w0 s 23 f L) (hb0 : Bk w0 B f 22) (hq3 : Qu w3 s 23 v L') (hg : w0.grownBy w3 (qblk f)) (hn : ∀ k, qblk v = some k → qblk f = some k ∨ w0.heap.size ≤ k) (hte : (22 : TypeId) ≠ 23) :
    Bk w3 B f 22 ∧ RS (w3.setCell ⟨B, 0, none⟩ v) s B (fun k => T k ∨ (W.heap.size ≤ k ∧ k < w3.heap.size)) L' ∧ Ows T W (w3.setCell ⟨B, 0, none⟩ v) := by
  have hbne := qu_bk hb0 hq0 hte
  have hB3 : Bk w3 B f 22 := hb0.kept (hg.block B hb0.lt fun e => hbne B e.symm rfl)
  have hvB : ∀ k, qblk v = some k → k ≠ B := fun k hk he => by
    rcases hn k hk with h | h
    · exact hbne k h he
    · have := hb0.lt; omega
  refine ⟨hB3, ⟨v, hB3.set v, hq3.kept fun k hk => heap_setCell_other _ _ k v (hvB k hk), .inl hT, fun k hk => ?_, fun k hk => ?_⟩, ?_⟩
  · rcases hn k hk with h | h
    · exact .inl (hfT k h)
    · exact .inr ⟨by have := h0.size; omega, (hq3.lt k hk).2⟩
  · have := hg.size
    have := h0.size
    rcases hk with h | h
    · have := hsz k h; simp; omega
    · simp; omega
  · refine h0.trans ((Ows.of_grown hg hfT).trans (Ows.of_grown (grown_set w3 B 0 v) fun k hk => by cases hk; exact hT))
def M.frk (h : Int) (L : List Int) (n : Int) : Bool := decide ((M.kid h L n).length = 2)
set_option maxRecDepth 100000 in
set_option maxHeartbeats 2000000 in
theorem tell_forks (h n : Int) (L : List Int) (s B : Nat) (T : Nat → Prop) (X : List Int) (W : World) (vi vo : Value) (st : RS W s B T (X.filter (M.frk h L))) (hX : X.length ≤ 40000) (hn0 : 0 ≤ n) (hn1 : n ≤ 18446744073709551615) (ui : Us W vi (M.kid h L n)) (hs : s ≤ W.heap.size) :
    Calls Tryz.prog 71 #[.int .u64 n, vi, vo, .pointer (some ⟨B, 0, none⟩)] W fun e w' => e = .returned (.tuple #[]) ∧ ∃ T', RS w' s B T' ((X ++ [n]).filter (M.frk h L)) ∧ Ows T W w' ∧ (∀ k, T' k → T k ∨ W.heap.size ≤ k) := by
  obtain ⟨i0, hi, hz0, hz1, hz2⟩ := info_parts Tryz.infoU64
  obtain ⟨ai, ci, rfl, -⟩ := us_view ui
  have hXl : (X.filter (M.frk h L)).length ≤ X.length := List.length_filter_le _ _
  by_cases hf : (M.kid h L n).length = 2
  · have e : (X ++ [n]).filter (M.frk h L) = X.filter (M.frk h L) ++ [n] := by rw [List.filter_append]; simp [M.frk, hf]
    rw [e, hf]
    generalize X.filter (M.frk h L) = F at *
    obtain ⟨f, h1, h2, h3, h4, h5⟩ := st
    obtain ⟨af, cf, rfl, -⟩ := h2.form
    have c1 := h1.cell
    have Q0 := hidq (h2.alloc (.cells #[.int .u64 n] 23))
    have HN := hidq (fun (w3 : World) v => rs_next (w3 := w3) (v := v) (L' := F ++ [n]) h3 h4 h5 (Ows.alloc T W (.cells #[.int .u64 n] 23)) (h2.alloc (.cells #[.int .u64 n] 23)) (h1.alloc (.cells #[.int .u64 n] 23)))
    clear h1 h2 h3 h4 h5 ui e hf
    go_enter Tryz.func71, Tryz.ntmps71
    go_wp2_with (at_builtin; refine wpList_append_qu rfl _ _ 22 rfl s 23 i0 Tryz.underlying22 hi hz0 hz1 hz2 _ F rfl Q0.out _ [n] rfl (Us.one _ _ _ hn0 hn1) (by simp only [List.length_cons, List.length_nil]; omega) (by simp; omega) ?_; intro v3 w3 q3 g3 n3; obtain ⟨ao3, cap3, rfl, -⟩ := q3.form; simp only [List.length_append, List.length_cons, List.length_nil, Nat.zero_add] at q3 n3; obtain ⟨r1, r2, r3⟩ := HN.out w3 _ q3 g3 n3 (by decide); have c3 := r1.cell; have f3 := r1.frozen; have R2 := hidq r2; have R3 := hidq r3; clear q3 g3 n3 r1 r2 r3)
    go_end0
    exact ⟨rfl, _, R2.out, R3.out, fun k hk => hk.imp id fun h => h.1⟩
  · have e : (X ++ [n]).filter (M.frk h L) = X.filter (M.frk h L) := by rw [List.filter_append]; simp [M.frk, hf]
    rw [e]
    have hfi : ((((M.kid h L n).length : Int)) == 2) = false := by rw [beq_eq_false_iff_ne]; omega
    have hfj : ¬ ((M.kid h L n).length : Int) = 2 := by omega
    have ST := hidq st
    clear st ui e hXl
    generalize (M.kid h L n).length = m at *
    go_enter Tryz.func71, Tryz.ntmps71
    go_wp2
    go_end0
    exact ⟨rfl, T, ST.out, ⟨rfl, rfl, rfl, Nat.le_refl _, fun _ _ _ => rfl⟩, fun k hk => .inl hk⟩
set_option maxRecDepth 100000 in
set_option maxHeartbeats 2000000 in
theorem tell_hang (h n : Int) (L : List Int) (s B : Nat) (T : Nat → Prop) (X : List Int) (W : World) (vi vo : Value) (st : RS W s B T (X.flatMap (M.outk h L))) (hX : X.length ≤ 40000) (uo : Us W vo (M.outk h L n)) (hs : s ≤ W.heap.size) :
    Calls Tryz.prog 70 #[.int .u64 n, vi, vo, .pointer (some ⟨B, 0, none⟩)] W fun e w' => e = .returned (.tuple #[]) ∧ ∃ T', RS w' s B T' ((X ++ [n]).flatMap (M.outk h L)) ∧ Ows T W w' ∧ (∀ k, T' k → T k ∨ W.heap.size ≤ k) := by
  obtain ⟨i0, hi, hz0, hz1, hz2⟩ := info_parts Tryz.infoU64
  have hXl : ∀ Y : List Int, (Y.flatMap (M.outk h L)).length ≤ 2 * Y.length := fun Y => by
    induction Y with
    | nil => simp
    | cons y t ih =>
      have : (M.outk h L y).length ≤ 2 := by
        unfold M.outk
        split
        · exact List.length_filter_le _ _
        · simp
      rw [List.flatMap_cons, List.length_append, List.length_cons]; omega
  have hl1 := hXl X
  have hl2 := hXl [n]
  rw [List.flatMap_cons, List.flatMap_nil, List.append_nil, List.length_singleton] at hl2
  have e : (X ++ [n]).flatMap (M.outk h L) = X.flatMap (M.outk h L) ++ M.outk h L n := by rw [List.flatMap_append]; simp
  rw [e]
  clear e hXl
  generalize X.flatMap (M.outk h L) = F at *
  generalize M.outk h L n = O at *
  obtain ⟨f, h1, h2, h3, h4, h5⟩ := st
  obtain ⟨af, cf, rfl, -⟩ := h2.form
  have c1 := h1.cell
  have Q0 := hidq h2
  have UO := hidq uo
  have HN := hidq (fun (w3 : World) v => rs_next (w3 := w3) (v := v) (L' := F ++ O) h3 h4 h5 (Ows.of_grown (World.grownBy.mk rfl rfl rfl (Nat.le_refl _) (fun _ _ _ => rfl) : W.grownBy W none) (fun k hk => by cases hk)) h2 h1)
  clear h1 h2 h3 h4 h5 uo
  go_enter Tryz.func70, Tryz.ntmps70
  go_wp2_with (at_builtin; refine wpList_append_qu rfl _ _ 22 rfl s 23 i0 Tryz.underlying22 hi hz0 hz1 hz2 _ F rfl Q0.out _ O rfl UO.out (by omega) hs ?_; intro v3 w3 q3 g3 n3; obtain ⟨ao3, cap3, rfl, -⟩ := q3.form; simp only [List.length_append] at q3 n3; obtain ⟨r1, r2, r3⟩ := HN.out w3 _ q3 g3 n3 (by decide); have c3 := r1.cell; have f3 := r1.frozen; have R2 := hidq r2; have R3 := hidq r3; clear q3 g3 n3 r1 r2 r3)
  go_end0
  exact ⟨rfl, _, R2.out, R3.out, fun k hk => hk.imp id fun h => h.1⟩
end Go.Proofs.YtmicgojojkkkhaaGreat
