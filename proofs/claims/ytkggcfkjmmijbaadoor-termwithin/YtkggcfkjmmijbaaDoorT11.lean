/-
  The document's own answers by named results; the chapter's example. Conditions: each theorem's own premises.
-/
import Derived.Test.YtkggcfkjmmijbaaDoorTC
namespace Go.Proofs.YtkggcfkjmmijbaaDoor
open Go.RowKit
theorem rtext_eq {A : List M.Tm} {i n : Int} {T : List UInt8} (h : M.textV A i = T) (hn : M.textE A i = n) {v : Value} (w : World) (u : Ts w v A) :
    Calls Tryd.prog 18 #[v, .int .i64 i] w fun e w' => e = .returned (.tuple #[.string (M.str T), .int .i64 n]) ∧ Below w.heap.size w w' := by subst h; subst hn; exact rText_any A i v w u
theorem rdeep_eq {A : List M.Tm} {i x n : Int} (h : M.dpV A i = x) (hn : M.deepE A i = n) {v : Value} (w : World) (u : Ts w v A) :
    Calls Tryd.prog 20 #[v, .int .i64 i] w fun e w' => e = .returned (.tuple #[.int .i64 x, .int .i64 n]) ∧ Below w.heap.size w w' := by subst h; subst hn; exact rdeep_any A i v w u
theorem rwithin_eq {A : List M.Tm} {i n : Int} {L : List Int} (h : M.withinL A i = L) (hn : M.deepE A i = n) {v : Value} (w : World) (u : Ts w v A) :
    Calls Tryd.prog 22 #[v, .int .i64 i] w fun e w' => ∃ v', e = .returned (.tuple #[v', .int .i64 n]) ∧ w'.ownsRow w.heap.size 3 1 v' L.length (elInt.cells L) ∧ Below w.heap.size w w' := by subst h; subst hn; exact rwithin_any A i v w u
theorem rmake_eq {A : List M.Tm} {t : M.Tm} (ht : M.fitT t) {x n : Int} {L : List M.Tm} (h : M.makeV A t = x) (hn : M.makeE A t = n) (hL : M.makeL A t = L) {v : Value} (w : World) (u : Ts w v A) :
    Calls Tryd.prog 12 #[v, .agg #[.int .i64 t.1, .int .i64 t.2.1, .int .i64 t.2.2]] w fun e w' => ∃ v', e = .returned (.tuple #[.int .i64 x, v', .int .i64 n]) ∧ w'.ownsRow w.heap.size 24 3 v' L.length (elTm.cells L) ∧ Below w.heap.size w w' := by subst h; subst hn; subst hL; exact rmake_any A t ht v w u
theorem rsame_eq {A B : List M.Tm} {r : Bool} (h : decide (A = B) = r) {v1 v2 : Value} (w : World) (u1 : Ts w v1 A) (u2 : Ts w v2 B) :
    Calls Tryd.prog 13 #[v1, v2] w fun e w' => e = .returned (.bool r) ∧ Below w.heap.size w w' := by subst h; exact rsame_any A B v1 v2 w u1 u2
theorem sameInts_eq {A B : List Int} {r : Bool} (h : decide (A = B) = r) {v1 v2 : Value} (w : World) (u1 : Is w v1 A) (u2 : Is w v2 B) :
    Calls Tryd.prog 23 #[v1, v2] w fun e w' => e = .returned (.bool r) ∧ Below w.heap.size w w' := by subst h; exact sameInts_any A B v1 v2 w u1 u2
theorem within_fit (A : List M.Tm) (i : Int) : ∀ x ∈ M.withinL A i, M.fitI x := by
  unfold M.withinL
  by_cases ht : M.thr A i = true
  · rw [if_pos ht]
    obtain ⟨hA, h0, h1⟩ := M.thr_iff.1 ht
    have hl := hA.1
    intro x hx
    obtain ⟨j, hj, _, rfl⟩ := (M.outL_mem _ _ _).1 hx
    exact ⟨by omega, by omega⟩
  · rw [if_neg ht]; simp
def M.liveL : List M.Tm := [(1, 7, 0), (2, 0, 0), (4, 1, 0)]
theorem M.live_txt : M.textV M.liveL 2 = [75, 40, 76, 40, 97, 55, 41, 41] ∧ M.textE M.liveL 2 = 0 := by
  have hA : M.Ok M.liveL := by decide
  have h : M.thr M.liveL 2 = true := M.thr_iff.2 ⟨hA, by decide, by decide⟩
  have h0 : M.txt M.liveL 0 = [97, 55] := by
    rw [M.txt_atom (hA.2 0 (by decide)).1 rfl]
    show 97 :: Lib.decDigits 7 = _
    rw [Lib.decDigits_one (by decide)]; rfl
  have h1 : M.txt M.liveL 1 = [76, 40, 97, 55, 41] := by
    rw [M.txt_one (hA.2 1 (by decide)).1 (by decide) (by decide)]
    show M.head_ 2 ++ M.txt M.liveL 0 ++ [41] = _
    rw [h0]; rfl
  have h2 : M.txt M.liveL 2 = [75, 40, 76, 40, 97, 55, 41, 41] := by
    rw [M.txt_one (hA.2 2 (by decide)).1 (by decide) (by decide)]
    show M.head_ 4 ++ M.txt M.liveL 1 ++ [41] = _
    rw [h1]; rfl
  have e : M.textE M.liveL 2 = 0 := by
    unfold M.textE
    rw [if_pos h]
    show (if (M.txt M.liveL 2).length ≤ 65536 then (0 : Int) else 3) = 0
    rw [h2]; rfl
  exact ⟨by unfold M.textV; rw [if_pos e]; exact h2, e⟩
theorem Ts.live (W : World) : Ts (W.alloc (.cells #[.int .i64 1, .int .i64 7, .int .i64 0, .int .i64 2, .int .i64 0, .int .i64 0, .int .i64 4, .int .i64 1, .int .i64 0] 24)) (.slice (some ⟨W.heap.size, 0, none⟩) 3 3) M.liveL := by
  refine Sl.of_own (base := 0) (e := 24) (n := 3) ⟨rfl, .inr ⟨W.heap.size, 3, _, rfl, Nat.zero_le _, heap_alloc_new W _, Nat.le_refl _, by unfold maxLen; omega, rfl, rfl⟩⟩ ?_
  intro x hx
  simp [M.liveL] at hx
  rcases hx with rfl | rfl | rfl <;> (refine ⟨⟨?_, ?_⟩, ⟨?_, ?_⟩, ⟨?_, ?_⟩⟩ <;> decide)
set_option maxRecDepth 100000 in
set_option maxHeartbeats 1000000 in
theorem live5_any (w : World) (hT : Tab w) :
    Calls Tryd.prog 8 #[] w fun e w' => e = .returned (.bool true) ∧ Below w.heap.size w w' := by
  have HX := hidq M.live_txt
  have HT := hidq hT
  clear hT
  have hs : M.str [75, 40, 76, 40, 97, 55, 41, 41] = ⟨#[75, 40, 76, 40, 97, 55, 41, 41]⟩ := rfl
  go_enter Tryd.func8, Tryd.ntmps8
  go_wp2_with (first | (go_at_call 17; refine (text_eq HX.out.1 HX.out.2 _ (HT.out.below (below_one (Below.refl _ _))) (Ts.live _)).mono ?_; rintro r w1 ⟨rfl, hb1⟩))
  go_ret
  exact ⟨rfl, below_trans (below_one (Below.refl _ _)) hb1⟩
end Go.Proofs.YtkggcfkjmmijbaaDoor
