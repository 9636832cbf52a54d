/-
  The chapter's example of layer 13. Condition: the two tables read as their text lays them.
-/
import Derived.Test.YtomhccendbnamaaDoorZLD4
import Derived.Test.YtomhccendbnamaaDoorZU8
namespace Go.Proofs.YtomhccendbnamaaDoor
open Go.RowKit
abbrev M.live13L : List M.Tm := [(1, 0, 0), (3, 0, 0), (4, 1, 0)]
theorem M.live13_txt : M.textV M.live13L 2 = [75, 40, 82, 40, 97, 48, 41, 41] ∧ M.textE M.live13L 2 = 0 := by
  have hA : M.Ok M.live13L := by decide
  have h : M.thr M.live13L 2 = true := M.thr_iff.2 ⟨hA, by decide, by decide⟩
  have h0 : M.txt M.live13L 0 = [97, 48] := by
    rw [M.txt_atom (hA.2 0 (by decide)).1 rfl]
    show 97 :: Lib.decDigits 0 = _
    rw [Lib.decDigits_one (by decide)]; rfl
  have h1 : M.txt M.live13L 1 = [82, 40, 97, 48, 41] := by
    rw [M.txt_one (hA.2 1 (by decide)).1 (by decide) (by decide)]
    show M.head_ 3 ++ M.txt M.live13L 0 ++ [41] = _
    rw [h0]; rfl
  have h2 : M.txt M.live13L 2 = [75, 40, 82, 40, 97, 48, 41, 41] := by
    rw [M.txt_one (hA.2 2 (by decide)).1 (by decide) (by decide)]
    show M.head_ 4 ++ M.txt M.live13L 1 ++ [41] = _
    rw [h1]; rfl
  have e : M.textE M.live13L 2 = 0 := by
    unfold M.textE
    rw [if_pos h]
    show (if (M.txt M.live13L 2).length ≤ 65536 then (0 : Int) else 3) = 0
    rw [h2]; rfl
  exact ⟨by unfold M.textV; rw [if_pos e]; exact h2, e⟩
theorem M.live13_key : M.keyA [(1, 0, 0)] 2 1 (M.ofT 0) 3 0 = (M.ofT 2, M.live13L, 0) := by kernel_rfl
set_option maxRecDepth 100000 in
theorem rsame5 {A : List M.Tm} {W : World} {v1 v2 : Value} (u1 : Ts W v1 A) (u2 : Ts W v2 A) :
    Calls Tryd.prog 9 #[v1, v2] W fun e w' => e = .returned (.bool true) ∧ Below W.heap.size W w' := by
  have := rsame_any A A v1 v2 W u1 u2
  rwa [decide_eq_true rfl] at this
set_option maxRecDepth 100000 in
theorem Ts.atom (W : World) (n : Int) (h0 : 0 ≤ n) (h1 : n ≤ 1048576) (g : Nat) (hg : g = W.heap.size) : Ts (W.alloc (.cells #[.int .i64 1, .int .i64 n, .int .i64 0] 43)) (.slice (some ⟨g, 0, none⟩) 1 1) [(1, n, 0)] := by
  subst hg
  refine Sl.of_own (base := 0) (e := 43) (n := 1) ⟨rfl, .inr ⟨W.heap.size, 1, _, rfl, Nat.zero_le _, heap_alloc_new W _, Nat.le_refl _, by unfold maxLen; omega, rfl, rfl⟩⟩ ?_
  intro x hx
  simp at hx
  subst hx
  have f1 : M.fitI 1 := ⟨by decide, by decide⟩
  have f2 : M.fitI n := ⟨by omega, by omega⟩
  have f3 : M.fitI 0 := ⟨by decide, by decide⟩
  exact ⟨f1, f2, f3⟩
theorem M.live13_fit : ∀ x ∈ M.live13L, M.fitT x := by
  intro x hx
  simp at hx
  rcases hx with rfl | rfl | rfl <;> (refine ⟨⟨?_, ?_⟩, ⟨?_, ?_⟩, ⟨?_, ?_⟩⟩ <;> decide)
set_option maxRecDepth 100000 in
set_option maxHeartbeats 1000000 in
theorem live13_any (w : World) (hT : Tab w) :
    Calls Tryd.prog 7 #[] w fun e w' => e = .returned (.bool true) ∧ Below w.heap.size w w' := by
  obtain ⟨A, hA⟩ : ∃ A : List M.Tm, [(1, 0, 0)] = A := ⟨_, rfl⟩
  obtain ⟨L, hL⟩ : ∃ L, M.live13L = L := ⟨_, rfl⟩
  have hK := M.live13_key
  have hX := M.live13_txt
  have hF := M.live13_fit
  rw [hL] at hK hX hF
  rw [hA] at hK
  have HK := hidq hK
  have HX := hidq hX
  have HF := hidq hF
  have HT := hidq hT
  have HA := hidq hA
  clear hT hK hX hF hA hL
  have hs : M.str [75, 40, 82, 40, 97, 48, 41, 41] = ⟨#[75, 40, 82, 40, 97, 48, 41, 41]⟩ := rfl
  have U0 := hidq (show Ts (w.alloc (.cells #[.int .i64 1, .int .i64 0, .int .i64 0] 43)) (.slice (some ⟨w.heap.size, 0, none⟩) 1 1) A from HA.out ▸ Ts.atom w 0 (by omega) (by omega) _ rfl)
  have B0 := hidq (below_one (o := .cells #[.int .i64 1, .int .i64 0, .int .i64 0] 43) (Below.refl w.heap.size w))
  go_enter Tryd.func7, Tryd.ntmps7
  go_wp2_with (first | (go_at_call 13; refine (lkey_eq HK.out (by omega) (by omega) (by omega) (by omega) _ U0.out).mono ?_; rintro e w1 ⟨v1, rfl, ho1, hb1⟩; have U1 := hidq ((Sl.of_own (E := elTm) ho1 HF.out).alloc (.cells #[.bool (M.ofT 2).1, .bool (M.ofT 2).2.1, .int .u64 (M.nu (M.ofT 2).2.2.1.1), .int .u64 (M.nu (M.ofT 2).2.2.1.2), .int .u64 (M.nu (M.ofT 2).2.2.2.1.1.1), .int .u64 (M.nu (M.ofT 2).2.2.2.1.1.2), .int .u64 (M.nu (M.ofT 2).2.2.2.1.2.1), .int .u64 (M.nu (M.ofT 2).2.2.2.1.2.2), .int .i64 (M.ofT 2).2.2.2.2] 29)); have X1 := hidq (Bx9.new w1 (M.ofT 2)); have B1 := hidq (below_one (o := (.cells #[.bool (M.ofT 2).1, .bool (M.ofT 2).2.1, .int .u64 (M.nu (M.ofT 2).2.2.1.1), .int .u64 (M.nu (M.ofT 2).2.2.1.2), .int .u64 (M.nu (M.ofT 2).2.2.2.1.1.1), .int .u64 (M.nu (M.ofT 2).2.2.2.1.1.2), .int .u64 (M.nu (M.ofT 2).2.2.2.1.2.1), .int .u64 (M.nu (M.ofT 2).2.2.2.1.2.2), .int .i64 (M.ofT 2).2.2.2.2] 29)) (below_trans B0.out hb1)); clear ho1 hb1) | (go_at_call 16; refine (text_eq HX.out.1 HX.out.2 _ (HT.out.below B1.out) U1.out).mono ?_; rintro r w2 ⟨rfl, hb2⟩; have c2 := (X1.out.below hb2).cells; have B2 := hidq (below_trans B1.out hb2); clear hb2))
  go_ret
  exact ⟨rfl, B2.out⟩
end Go.Proofs.YtomhccendbnamaaDoor
