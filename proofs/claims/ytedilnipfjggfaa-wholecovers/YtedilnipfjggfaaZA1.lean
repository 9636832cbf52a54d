/-
  What sub.Check, spansOf, Leaves, Less, stepOf and Step answer at every input; a box of two numbers. Conditions: the numbers fit their kinds; of spansOf: the subset may be.
-/
import Derived.Test.YtedilnipfjggfaaZA0
import Derived.Test.YtedilnipfjggfaaZK1
import Derived.Test.YtedilnipfjggfaaZK2
import Derived.Test.YtedilnipfjggfaaZW2
namespace Go.Proofs.Ytedilnipfjggfaa
open Go.RowKit
/-- a box of two numbers -/
def Bi (W : World) (B : Nat) (t : TypeId) (x y : Int) : Prop := W.heap[B]? = some (.cells #[.int .u64 x, .int .u64 y] t (0, 0))
theorem Bi.lt {W : World} {B : Nat} {t : TypeId} {x y : Int} (h : Bi W B t x y) : B < W.heap.size := (Array.getElem?_eq_some_iff.1 h).1
theorem Bi.facts {W : World} {B : Nat} {t : TypeId} {x y : Int} (h : Bi W B t x y) : W.cell? ⟨B, 0, none⟩ = some (.int .u64 x) ∧ W.cell? ⟨B, 1, none⟩ = some (.int .u64 y) := by
  have h' : W.heap[B]? = _ := h
  refine ⟨?_, ?_⟩
  · simp [World.cell?, h']
  · simp [World.cell?, h']
theorem Bi.new (W : World) (t : TypeId) (x y : Int) : Bi (W.alloc (.cells #[.int .u64 x, .int .u64 y] t)) W.heap.size t x y := by
  show (W.heap.push _)[W.heap.size]? = _
  simp
theorem Bi.alloc {W : World} {B : Nat} {t : TypeId} {x y : Int} (h : Bi W B t x y) (o : Obj) : Bi (W.alloc o) B t x y := (Below.heap_alloc _ _ _ h.lt).trans h
theorem Bi.drewN {W : World} {B : Nat} {t : TypeId} {x y : Int} (h : Bi W B t x y) (n : Nat) : Bi (W.drewN n) B t x y := h
theorem Bi.below {W W' : World} {B : Nat} {t : TypeId} {x y : Int} (h : Bi W B t x y) (hb : Below W.heap.size W W') : Bi W' B t x y := (hb.block B h.lt).trans h
set_option maxHeartbeats 400000 in
theorem check8_any (h I J : Int) (w : World) (h0 : 0 ≤ I) (h1 : I ≤ 18446744073709551615) (h2 : 0 ≤ J) (h3 : J ≤ 18446744073709551615) :
    Calls Try.prog 30 #[.int .i64 h, .agg #[.int .u64 I, .int .u64 J]] w fun e w' => e = .returned (.int .i64 (M.subE h I J)) ∧ Below w.heap.size w w' := by
  have hA : Below w.heap.size w (w.alloc (.cells #[.int .u64 I, .int .u64 J] 34)) := (Below.refl _ w).alloc (Nat.le_refl _) _
  cases hI : M.okB h I
  · have C := M.eChk_nok (h := h) (n := I) (by rw [hI]; decide)
    have E : M.subE h I J = 1 := by unfold M.subE M.subB; rw [hI]; rfl
    rw [E]
    go_enter Try.func30, Try.ntmps30
    go_wp2_with (first | (go_at_call 47; refine (check_any _ _ _ (by omega) (by omega)).mono ?_; rintro e w' ⟨rfl, hw⟩; subst w') | (go_at_call 52; refine (above_any _ _ _ _ (by omega) (by omega) (by omega) (by omega)).mono ?_; rintro e w' ⟨rfl, hw⟩; subst w'))
    go_ret
    exact ⟨rfl, hA⟩
  · have C := M.eChk_ok hI
    by_cases hJ : J = 0
    · have E : M.subE h I J = 0 := by unfold M.subE M.subB; rw [hI, hJ]; rfl
      rw [E]
      subst hJ
      go_enter Try.func30, Try.ntmps30
      go_wp2_with (first | (go_at_call 47; refine (check_any _ _ _ (by omega) (by omega)).mono ?_; rintro e w' ⟨rfl, hw⟩; subst w') | (go_at_call 52; refine (above_any _ _ _ _ (by omega) (by omega) (by omega) (by omega)).mono ?_; rintro e w' ⟨rfl, hw⟩; subst w'))
      go_ret
      exact ⟨rfl, hA⟩
    · cases hK : M.okB h J
      · have C2 : M.eBoth h I J = 1 := M.eBoth_no (by rw [hK]; simp)
        have E : M.subE h I J = 1 := by unfold M.subE M.subB; rw [hI, hK, decide_eq_false hJ]; rfl
        rw [E]
        clear hI hK
        go_enter Try.func30, Try.ntmps30
        go_wp2_with (first | (go_at_call 47; refine (check_any _ _ _ (by omega) (by omega)).mono ?_; rintro e w' ⟨rfl, hw⟩; subst w') | (go_at_call 52; refine (above_any _ _ _ _ (by omega) (by omega) (by omega) (by omega)).mono ?_; rintro e w' ⟨rfl, hw⟩; subst w'))
        go_ret
        exact ⟨rfl, hA⟩
      · have C2 : M.eBoth h I J = 0 := M.eBoth_ok hI hK
        have C3 : M.abvV h I J = M.abv I J := M.abvV_ok hI hK
        cases hab : M.abv I J
        · have E : M.subE h I J = 1 := by unfold M.subE M.subB; rw [hI, hK, hab, decide_eq_false hJ]; rfl
          rw [E]
          rw [hab] at C3
          clear hI hK hab
          go_enter Try.func30, Try.ntmps30
          go_wp2_with (first | (go_at_call 47; refine (check_any _ _ _ (by omega) (by omega)).mono ?_; rintro e w' ⟨rfl, hw⟩; subst w') | (go_at_call 52; refine (above_any _ _ _ _ (by omega) (by omega) (by omega) (by omega)).mono ?_; rintro e w' ⟨rfl, hw⟩; subst w'))
          go_ret
          exact ⟨rfl, hA⟩
        · rw [hab] at C3
          by_cases hIJ : I = J
          · have E : M.subE h I J = 1 := by unfold M.subE M.subB; rw [hI, hK, hab, decide_eq_false hJ, decide_eq_true hIJ]; rfl
            rw [E]
            subst hIJ
            clear hI hK hab
            go_enter Try.func30, Try.ntmps30
            go_wp2_with (first | (go_at_call 47; refine (check_any _ _ _ (by omega) (by omega)).mono ?_; rintro e w' ⟨rfl, hw⟩; subst w') | (go_at_call 52; refine (above_any _ _ _ _ (by omega) (by omega) (by omega) (by omega)).mono ?_; rintro e w' ⟨rfl, hw⟩; subst w'))
            go_ret
            exact ⟨rfl, hA⟩
          · have E : M.subE h I J = 0 := by unfold M.subE M.subB; rw [hI, hK, hab, decide_eq_false hJ, decide_eq_false hIJ]; rfl
            rw [E]
            clear hI hK hab
            go_enter Try.func30, Try.ntmps30
            go_wp2_with (first | (go_at_call 47; refine (check_any _ _ _ (by omega) (by omega)).mono ?_; rintro e w' ⟨rfl, hw⟩; subst w') | (go_at_call 52; refine (above_any _ _ _ _ (by omega) (by omega) (by omega) (by omega)).mono ?_; rintro e w' ⟨rfl, hw⟩; subst w'))
            go_ret
            exact ⟨rfl, hA⟩
end Go.Proofs.Ytedilnipfjggfaa
