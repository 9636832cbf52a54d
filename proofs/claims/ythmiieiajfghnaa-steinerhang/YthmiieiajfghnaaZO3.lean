/-
  What steiner.children answers: the children that are in a set's tree, and those that are out of it. Conditions: the node may be, the boxes hold the height and the set.
-/
import Derived.Test.YthmiieiajfghnaaZG2
import Derived.Test.YthmiieiajfghnaaZO2
import Derived.Test.YthmiieiajfghnaaZW2
namespace Go.Proofs.Ythmiieiajfghnaa
open Go.RowKit
namespace M
def twoK (n : Int) (k : Nat) : List Int := (List.range k).map fun (s : Nat) => 2 * n + s
def kidK (h : Int) (L : List Int) (n : Int) (k : Nat) : List Int := (twoK n k).filter (inT h L)
def outK (h : Int) (L : List Int) (n : Int) (k : Nat) : List Int := (twoK n k).filter (fun c => !inT h L c)
theorem twoK_succ (n : Int) (k : Nat) : twoK n (k + 1) = twoK n k ++ [2 * n + k] := by unfold twoK; rw [List.range_succ, List.map_append]; rfl
theorem kidK_yes {h : Int} {L : List Int} {n : Int} {k : Nat} (hc : inT h L (2 * n + k) = true) : kidK h L n (k + 1) = kidK h L n k ++ [2 * n + k] ∧ outK h L n (k + 1) = outK h L n k := by
  unfold kidK outK
  rw [twoK_succ, List.filter_append, List.filter_append]; simp [hc]
theorem kidK_no {h : Int} {L : List Int} {n : Int} {k : Nat} (hc : inT h L (2 * n + k) = false) : kidK h L n (k + 1) = kidK h L n k ∧ outK h L n (k + 1) = outK h L n k ++ [2 * n + k] := by
  unfold kidK outK
  rw [twoK_succ, List.filter_append, List.filter_append]; simp [hc]
theorem kidK_two {h : Int} {L : List Int} {n : Int} (hl : n < p2 h) : kidK h L n 2 = kid h L n ∧ outK h L n 2 = outk h L n := by
  have e : twoK n 2 = [2 * n, 2 * n + 1] := by simp [twoK, List.range_succ]
  unfold kidK outK kid outk
  rw [if_pos hl, if_pos hl, e]; exact ⟨rfl, rfl⟩
theorem kidK_len (h : Int) (L : List Int) (n : Int) (k : Nat) : (kidK h L n k).length ≤ k ∧ (outK h L n k).length ≤ k := by
  have e : (twoK n k).length = k := by simp [twoK]
  have h1 : (kidK h L n k).length ≤ _ := List.length_filter_le _ _
  have h2 : (outK h L n k).length ≤ _ := List.length_filter_le _ _
  rw [e] at h1 h2
  exact ⟨h1, h2⟩
end M
theorem qu_beside {W W' : World} {base : Nat} {e : TypeId} {x y : Value} {B : List Int} (g : W.grownBy W' (qblk x)) (QY : Qu W base e y B) (hap : ∀ k, qblk x = some k → qblk y ≠ some k) : Qu W' base e y B :=
  QY.kept fun k hk => g.block k (QY.lt k hk).2 fun e => hap k e.symm hk
theorem qu_apart {W : World} {base : Nat} {e : TypeId} {x x' y : Value} {B : List Int} (hn : ∀ k, qblk x' = some k → qblk x = some k ∨ W.heap.size ≤ k) (QY : Qu W base e y B) (hap : ∀ k, qblk x = some k → qblk y ≠ some k) : ∀ k, qblk x' = some k → qblk y ≠ some k := by
  intro k hk he
  rcases hn k hk with h | h
  · exact hap k h he
  · have := (QY.lt k he).2; omega
theorem qu_flip {x y : Value} (hap : ∀ k, qblk x = some k → qblk y ≠ some k) : ∀ k, qblk y = some k → qblk x ≠ some k := fun k h1 h2 => hap k h2 h1
theorem below_qu {s : Nat} {W0 W W' : World} {base : Nat} {e : TypeId} {x : Value} {A : List Int} (hb : Below s W0 W) (g : W.grownBy W' (qblk x)) (Q : Qu W base e x A) (hs : s ≤ base) (hs2 : s ≤ W.heap.size) : Below s W0 W' :=
  hb.grown g hs2 fun k hk => by have := (Q.lt k hk).1; omega
set_option maxRecDepth 100000 in
set_option maxHeartbeats 4000000 in
theorem children_any (h n : Int) (L : List Int) (H B : Nat) (vl : Value) (w : World) (hs : M.setB h L = true) (hk : M.okB h n = true) (bH : Bk w H (.int .i64 h) 3) (bL : Bk w B vl 22) (u : Us w vl L) :
    Calls Try.prog 54 #[.int .i64 h, .int .u64 n, (.func (.func 68) #[] #[.pointer (some ⟨H, 0, none⟩), .pointer (some ⟨B, 0, none⟩)])] w fun e w' => ∃ vi vo, e = .returned (.tuple #[vi, vo]) ∧ Qu w' w.heap.size 23 vi (M.kid h L n) ∧ Qu w' w.heap.size 23 vo (M.outk h L n) ∧ Below w.heap.size w w' := by
  obtain ⟨i0, hi, hz0, hz1, hz2⟩ := info_parts Try.infoU64
  have h0 : 0 ≤ n := by have := (M.ok_of hk).2.2.1; omega
  have h1 : n ≤ 18446744073709551615 := by have := M.ok_lt hk; omega
  have hn2 := M.ok_lt hk
  have HS := hidq hs
  have BH := hidq bH
  have BL := hidq bL
  have UL := hidq u
  by_cases hl : n < M.p2 h
  · obtain ⟨k1, k2⟩ := M.kidK_two (L := L) hl
    rw [← k1, ← k2]
    have HC := hidq (fun (k : Nat) (hk2 : k < 2) => show M.childE h n k = 0 ∧ M.childV h n k = 2 * n + k ∧ M.okB h (2 * n + k) = true by
      have e := M.childE_yes hk (s := (k : Int)) (by omega) hl
      exact ⟨e, by unfold M.childV; rw [if_pos e], M.ok_child hk (by omega) hl⟩)
    clear k1 k2 hk bH bL u hs hl
    go_enter Try.func54, Try.ntmps54
    go_wp2
    go_loopw [11, 6, 7] (fun s x y wr => ∃ (k : Nat), k ≤ 2 ∧ s = .int .i64 k ∧ Qu wr w.heap.size 23 x (M.kidK h L n k) ∧ Qu wr w.heap.size 23 y (M.outK h L n k) ∧ (∀ g, qblk x = some g → qblk y ≠ some g) ∧ Below w.heap.size w wr) (fun s _ _ _ => 2 - (intOf s).toNat)
    case atStart => exact ⟨0, by omega, rfl, Qu.nil _ _ _ _, Qu.nil _ _ _ _, (fun g hg => by cases hg), Below.refl _ _⟩
    case round =>
      obtain ⟨k, hk, rfl, qx, qy, hap, hb⟩ := hrel
      obtain ⟨ax, cx, rfl, _⟩ := qx.form
      obtain ⟨ay, cy, rfl, _⟩ := qy.form
      have QX := hidq qx
      have QY := hidq qy
      have AP := hidq hap
      have BB := hidq hb
      have hl2 := M.kidK_len h L n k
      clear qx qy hap hb
      by_cases hlt : k < 2
      · obtain ⟨c1, c2, c3⟩ := HC.out k hlt
        have HOK := hidq c3
        have hki : (k : Int) < 2 := by omega
        have hcb : 0 ≤ 2 * n + k ∧ 2 * n + k ≤ 18446744073709551615 := by omega
        cases hin : M.inT h L (2 * n + k) with
        | true =>
          have HX := hidq (M.kidK_yes hin)
          generalize hA : M.kidK h L n k = A at *
          generalize hA' : M.outK h L n k = A' at *
          obtain ⟨c, hc⟩ : ∃ c, 2 * n + (k : Int) = c := ⟨_, rfl⟩
          rw [hc] at c2 HOK hin hcb HX
          clear hA hA' c3 hc
          go_wp2_with (first | (go_at_call 21; refine (child_any h n _ _ h0 h1).mono ?_; rw [c1, c2]; rintro e w' ⟨rfl, hw⟩; subst w') | (go_at_call 68; refine (isIn_any h _ L H B vl _ HS.out HOK.out (BH.out.below BB.out) (BL.out.below BB.out) (UL.out.below BB.out)).mono ?_; rw [hin]; rintro rr w2 ⟨rfl, hb2⟩; have QX2 := hidq (QX.out.below hb2); have QY2 := hidq (QY.out.below hb2); have BB2 := hidq (below_trans BB.out hb2)) | (at_builtin; refine wpList_append_qu rfl _ _ 22 rfl w.heap.size 23 i0 Try.underlying22 hi hz0 hz1 hz2 _ A rfl (QX2.out.alloc (.cells #[.int .u64 c] 23)) _ [c] rfl (Us.one _ _ _ (by omega) (by omega)) (by simp only [List.length_cons, List.length_nil]; omega) (by have := BB2.out.size; simp; omega) ?_; intro v3 w3 q3 g3 n3; obtain ⟨ao3, cap3, rfl, _⟩ := q3.form; simp only [List.length_append, List.length_cons, List.length_nil, Nat.zero_add] at q3 n3; have Q3 := hidq q3; have QO3 := hidq (qu_beside g3 (QY2.out.alloc (.cells #[.int .u64 c] 23)) AP.out); have AP3 := hidq (qu_apart n3 (QY2.out.alloc (.cells #[.int .u64 c] 23)) AP.out); have B3 := hidq (below_qu (below_one (o := (.cells #[.int .u64 c] 23)) BB2.out) g3 (QX2.out.alloc (.cells #[.int .u64 c] 23)) (Nat.le_refl _) (by have := BB2.out.size; simp; omega)); clear q3 g3 n3))
          go_roundw
          case rel => exact ⟨k + 1, by omega, by go_num, by rw [HX.out.1]; exact Q3.out, by rw [HX.out.2]; exact QO3.out, AP3.out, B3.out⟩
          case measure => simp [intOf]; omega
        | false =>
          have HX := hidq (M.kidK_no hin)
          generalize hA : M.kidK h L n k = A at *
          generalize hA' : M.outK h L n k = A' at *
          obtain ⟨c, hc⟩ : ∃ c, 2 * n + (k : Int) = c := ⟨_, rfl⟩
          rw [hc] at c2 HOK hin hcb HX
          clear hA hA' c3 hc
          go_wp2_with (first | (go_at_call 21; refine (child_any h n _ _ h0 h1).mono ?_; rw [c1, c2]; rintro e w' ⟨rfl, hw⟩; subst w') | (go_at_call 68; refine (isIn_any h _ L H B vl _ HS.out HOK.out (BH.out.below BB.out) (BL.out.below BB.out) (UL.out.below BB.out)).mono ?_; rw [hin]; rintro rr w2 ⟨rfl, hb2⟩; have QX2 := hidq (QX.out.below hb2); have QY2 := hidq (QY.out.below hb2); have BB2 := hidq (below_trans BB.out hb2)) | (at_builtin; refine wpList_append_qu rfl _ _ 22 rfl w.heap.size 23 i0 Try.underlying22 hi hz0 hz1 hz2 _ A' rfl (QY2.out.alloc (.cells #[.int .u64 c] 23)) _ [c] rfl (Us.one _ _ _ (by omega) (by omega)) (by simp only [List.length_cons, List.length_nil]; omega) (by have := BB2.out.size; simp; omega) ?_; intro v3 w3 q3 g3 n3; obtain ⟨ao3, cap3, rfl, _⟩ := q3.form; simp only [List.length_append, List.length_cons, List.length_nil, Nat.zero_add] at q3 n3; have Q3 := hidq q3; have QO3 := hidq (qu_beside g3 (QX2.out.alloc (.cells #[.int .u64 c] 23)) (qu_flip AP.out)); have AP3 := hidq (qu_apart n3 (QX2.out.alloc (.cells #[.int .u64 c] 23)) (qu_flip AP.out)); have B3 := hidq (below_qu (below_one (o := (.cells #[.int .u64 c] 23)) BB2.out) g3 (QY2.out.alloc (.cells #[.int .u64 c] 23)) (Nat.le_refl _) (by have := BB2.out.size; simp; omega)); clear q3 g3 n3))
          go_roundw
          case rel => exact ⟨k + 1, by omega, by go_num, by rw [HX.out.1]; exact QO3.out, by rw [HX.out.2]; exact Q3.out, qu_flip AP3.out, B3.out⟩
          case measure => simp [intOf]; omega
      · obtain rfl : k = 2 := by omega
        have hki : ¬ ((2 : Nat) : Int) < 2 := by omega
        go_wp2
        go_ret2
        exact ⟨_, _, rfl, QX.out, QY.out, BB.out⟩
  · have c1 : M.childE h n 0 = 4 := M.childE_no hk (.inl rfl) hl
    have c2 : M.childV h n 0 = 0 := by unfold M.childV; rw [c1]; rfl
    have ek : M.kid h L n = [] := by unfold M.kid; rw [if_neg hl]
    have eo : M.outk h L n = [] := by unfold M.outk; rw [if_neg hl]
    rw [ek, eo]
    clear ek eo hk bH bL u hs hl
    go_enter Try.func54, Try.ntmps54
    go_wp2
    refine wp_loop_rounds 1 ?_
    rw [rounds_succ]
    go_wp2_with (first | (go_at_call 21; refine (child_any h n _ _ h0 h1).mono ?_; rw [c1, c2]; rintro e w' ⟨rfl, hw⟩; subst w'))
    go_ret2
    exact ⟨_, _, rfl, Qu.nil _ _ _ _, Qu.nil _ _ _ _, Below.refl _ _⟩
end Go.Proofs.Ythmiieiajfghnaa
