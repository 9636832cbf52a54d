/-
  What sub.Check, spansOf, Leaves, Less, stepOf and Step answer at every input; a box of two numbers. Conditions: the numbers fit their kinds; of spansOf: the subset may be.
-/
import Derived.Test.YtjaikcnfepbpgaaZA0
import Derived.Test.YtjaikcnfepbpgaaZK1
import Derived.Test.YtjaikcnfepbpgaaZK2
import Derived.Test.YtjaikcnfepbpgaaZW2
namespace Go.Proofs.Ytjaikcnfepbpgaa
open Go.RowKit
/-- a box of two numbers -/
def Bi (W : World) (B : Nat) (t : TypeId) (x y : Int) : Prop := W.heap[B]? = some (.cells #[.int .u64 x, .int .u64 y] t (0, 0))
theorem Bi.lt {W : World} {B : Nat} {t : TypeId} {x y : Int} (h : Bi W B t x y) : B < W.heap.size := (Array.getElem?_eq_some_iff.1 h).1
theorem Bi.facts {W : World} {B : Nat} {t : TypeId} {x y : Int} (h : Bi W B t x y) : W.cell? ⟨B, 0, none⟩ = some (.int .u64 x) ∧ W.cell? ⟨B, 1, none⟩ = some (.int .u64 y) := by
  have h' : W.heap[B]? = _ := h
  refine ⟨?_, ?_⟩
  · simp [World.cell?, h']
  · simp [World.cell?, h']
theorem Bi.new (W : World) (t : TypeId) (x y : Int) : Bi (W.alloc (.cells #[.int .u64 x, .int .u64 y] t)) W.heap.size t x y := by
  show (W.heap.push _)[W.heap.size]? = _
  simp
theorem Bi.alloc {W : World} {B : Nat} {t : TypeId} {x y : Int} (h : Bi W B t x y) (o : Obj) : Bi (W.alloc o) B t x y := (Below.heap_alloc _ _ _ h.lt).trans h
theorem Bi.drewN {W : World} {B : Nat} {t : TypeId} {x y : Int} (h : Bi W B t x y) (n : Nat) : Bi (W.drewN n) B t x y := h
theorem Bi.below {W W' : World} {B : Nat} {t : TypeId} {x y : Int} (h : Bi W B t x y) (hb : Below W.heap.size W W') : Bi W' B t x y := (hb.block B h.lt).trans h
set_option maxRecDepth 100000 in
set_option maxHeartbeats 400000 in
theorem check8_any (h I J : Int) (w : World) (h0 : 0 ≤ I) (h1 : I ≤ 18446744073709551615) (h2 : 0 ≤ J) (h3 : J ≤ 18446744073709551615) :
    Calls Try.prog 32 #[.int .i64 h, .agg #[.int .u64 I, .int .u64 J]] w fun e w' => e = .returned (.int .i64 (M.subE h I J)) ∧ Below w.heap.size w w' := by
  have hA : Below w.heap.size w (w.alloc (.cells #[.int .u64 I, .int .u64 J] 36)) := (Below.refl _ w).alloc (Nat.le_refl _) _
  cases hI : M.okB h I
  · have C := M.eChk_nok (h := h) (n := I) (by rw [hI]; decide)
    have E : M.subE h I J = 1 := by unfold M.subE M.subB; rw [hI]; rfl
    rw [E]
    go_enter Try.func32, Try.ntmps32
    go_wp2_with (first | (go_at_call 61; refine (check_any _ _ _ (by omega) (by omega)).mono ?_; rintro e w' ⟨rfl, hw⟩; subst w') | (go_at_call 62; refine (above_any _ _ _ _ (by omega) (by omega) (by omega) (by omega)).mono ?_; rintro e w' ⟨rfl, hw⟩; subst w'))
    go_ret
    exact ⟨rfl, hA⟩
  · have C := M.eChk_ok hI
    by_cases hJ : J = 0
    · have E : M.subE h I J = 0 := by unfold M.subE M.subB; rw [hI, hJ]; rfl
      rw [E]
      subst hJ
      go_enter Try.func32, Try.ntmps32
      go_wp2_with (first | (go_at_call 61; refine (check_any _ _ _ (by omega) (by omega)).mono ?_; rintro e w' ⟨rfl, hw⟩; subst w') | (go_at_call 62; refine (above_any _ _ _ _ (by omega) (by omega) (by omega) (by omega)).mono ?_; rintro e w' ⟨rfl, hw⟩; subst w'))
      go_ret
      exact ⟨rfl, hA⟩
    · cases hK : M.okB h J
      · have C2 : M.eBoth h I J = 1 := M.eBoth_no (by rw [hK]; simp)
        have E : M.subE h I J = 1 := by unfold M.subE M.subB; rw [hI, hK, decide_eq_false hJ]; rfl
        rw [E]
        clear hI hK
        go_enter Try.func32, Try.ntmps32
        go_wp2_with (first | (go_at_call 61; refine (check_any _ _ _ (by omega) (by omega)).mono ?_; rintro e w' ⟨rfl, hw⟩; subst w') | (go_at_call 62; refine (above_any _ _ _ _ (by omega) (by omega) (by omega) (by omega)).mono ?_; rintro e w' ⟨rfl, hw⟩; subst w'))
        go_ret
        exact ⟨rfl, hA⟩
      · have C2 : M.eBoth h I J = 0 := M.eBoth_ok hI hK
        have C3 : M.abvV h I J = M.abv I J := M.abvV_ok hI hK
        cases hab : M.abv I J
        · have E : M.subE h I J = 1 := by unfold M.subE M.subB; rw [hI, hK, hab, decide_eq_false hJ]; rfl
          rw [E]
          rw [hab] at C3
          clear hI hK hab
          go_enter Try.func32, Try.ntmps32
          go_wp2_with (first | (go_at_call 61; refine (check_any _ _ _ (by omega) (by omega)).mono ?_; rintro e w' ⟨rfl, hw⟩; subst w') | (go_at_call 62; refine (above_any _ _ _ _ (by omega) (by omega) (by omega) (by omega)).mono ?_; rintro e w' ⟨rfl, hw⟩; subst w'))
          go_ret
          exact ⟨rfl, hA⟩
        · rw [hab] at C3
          by_cases hIJ : I = J
          · have E : M.subE h I J = 1 := by unfold M.subE M.subB; rw [hI, hK, hab, decide_eq_false hJ, decide_eq_true hIJ]; rfl
            rw [E]
            subst hIJ
            clear hI hK hab
            go_enter Try.func32, Try.ntmps32
            go_wp2_with (first | (go_at_call 61; refine (check_any _ _ _ (by omega) (by omega)).mono ?_; rintro e w' ⟨rfl, hw⟩; subst w') | (go_at_call 62; refine (above_any _ _ _ _ (by omega) (by omega) (by omega) (by omega)).mono ?_; rintro e w' ⟨rfl, hw⟩; subst w'))
            go_ret
            exact ⟨rfl, hA⟩
          · have E : M.subE h I J = 0 := by unfold M.subE M.subB; rw [hI, hK, hab, decide_eq_false hJ, decide_eq_false hIJ]; rfl
            rw [E]
            clear hI hK hab
            go_enter Try.func32, Try.ntmps32
            go_wp2_with (first | (go_at_call 61; refine (check_any _ _ _ (by omega) (by omega)).mono ?_; rintro e w' ⟨rfl, hw⟩; subst w') | (go_at_call 62; refine (above_any _ _ _ _ (by omega) (by omega) (by omega) (by omega)).mono ?_; rintro e w' ⟨rfl, hw⟩; subst w'))
            go_ret
            exact ⟨rfl, hA⟩
set_option maxRecDepth 100000 in
set_option maxHeartbeats 400000 in
theorem less8_any (I J K L : Int) (w : World) (_h0 : 0 ≤ I ∧ I ≤ 18446744073709551615) (_h1 : 0 ≤ J ∧ J ≤ 18446744073709551615) (h2 : 0 ≤ K ∧ K ≤ 18446744073709551615) (_h3 : 0 ≤ L ∧ L ≤ 18446744073709551615) :
    Calls Try.prog 16 #[.agg #[.int .u64 I, .int .u64 J], .agg #[.int .u64 K, .int .u64 L]] w fun e w' => e = .returned (.bool (M.lssB I J K L)) ∧ Below w.heap.size w w' := by
  have hA : Below w.heap.size w ((w.alloc (.cells #[.int .u64 I, .int .u64 J] 36)).alloc (.cells #[.int .u64 K, .int .u64 L] 36)) := below_one ((Below.refl _ w).alloc (Nat.le_refl _) _)
  obtain ⟨r, hr⟩ : ∃ r, M.lssB I J K L = r := ⟨_, rfl⟩
  rw [hr]
  unfold M.lssB at hr
  by_cases c1 : I < K
  · rw [decide_eq_true c1] at hr
    obtain rfl : r = true := by rw [← hr]; rfl
    clear hr
    go_enter Try.func16, Try.ntmps16
    go_wp2
    all_goals go_ret
    all_goals exact ⟨rfl, hA⟩
  · rw [decide_eq_false c1] at hr
    by_cases c2 : I = K
    · subst c2
      rw [decide_eq_true rfl, Bool.false_or, Bool.true_and] at hr
      by_cases c3 : J < L
      · obtain rfl : r = true := by rw [← hr]; simpa using c3
        clear hr
        go_enter Try.func16, Try.ntmps16
        go_wp2
        all_goals go_ret
        all_goals exact ⟨rfl, hA⟩
      · obtain rfl : r = false := by rw [← hr]; simpa using c3
        clear hr
        go_enter Try.func16, Try.ntmps16
        go_wp2
        all_goals go_ret
        all_goals exact ⟨rfl, hA⟩
    · rw [decide_eq_false c2] at hr
      obtain rfl : r = false := by rw [← hr]; rfl
      clear hr
      go_enter Try.func16, Try.ntmps16
      go_wp2
      all_goals go_ret
      all_goals exact ⟨rfl, hA⟩
end Go.Proofs.Ytjaikcnfepbpgaa
