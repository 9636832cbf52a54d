/-
  What steiner.Is, Many, Down, Forks and Hang answer at every input. Conditions: the slice holds numbers that fit.
-/
import Derived.Test.YthmiekinjfaflaaZFU
import Derived.Test.YthmiekinjfaflaaZO5
namespace Go.Proofs.Ythmiekinjfaflaa
open Go.RowKit
namespace M
def isV (h : Int) (L : List Int) (n : Int) : Bool := decide (0 < (belV h L n).length)
def tmV (h : Int) (L : List Int) : Int := if setE h L = 0 then ((tree h L).length : Int) else 0
def tfV (h : Int) (L : List Int) : List Int := if setE h L = 0 then (tree h L).filter (frk h L) else []
def thV (h : Int) (L : List Int) : List Int := if setE h L = 0 then (if L.length = 0 then [1] else (tree h L).flatMap (outk h L)) else []
def dnE (h : Int) (L : List Int) (n : Int) : Int := if belE h L n = 0 then (if (belV h L n).length = 0 then 4 else 0) else 1
def fstL (L : List Int) : Int := L[0]?.getD 0
def lstL (L : List Int) : Int := L[L.length - 1]?.getD 0
def dnV (h : Int) (L : List Int) (n : Int) : Int := if dnE h L n = 0 then meet (p2 h + fstL (belV h L n)) (p2 h + lstL (belV h L n)) else 0
theorem tre_nil (h : Int) : ∀ k, tre h [] k = [] := fun k => by
  induction k with
  | zero => rfl
  | succ k ih => unfold tre lev; rw [ih]; rfl
theorem tree_nil (h : Int) : tree h [] = [] := tre_nil h _
theorem setE_zero {h : Int} {L : List Int} : setE h L = 0 ↔ setB h L = true := by
  unfold setE
  cases setB h L <;> simp
theorem setE_one {h : Int} {L : List Int} (hs : ¬ setE h L = 0) : setE h L = 1 := by
  unfold setE at hs ⊢
  cases hx : setB h L
  · rfl
  · rw [hx] at hs; exact absurd rfl hs
end M
set_option maxRecDepth 100000 in
theorem ms_new (w1 : World) : MS (w1.alloc (.cells #[.int .i64 0] 3)) w1.heap.size (fun k => k = w1.heap.size) ((([] : List Int).length : Nat) : Int) :=
  ⟨Bk.new _ _ _, rfl, fun k hk => by have e : k = w1.heap.size := hk; subst e; simp⟩
set_option maxRecDepth 100000 in
theorem rs_new (w1 : World) (s : Nat) : RS (w1.alloc (.cells #[.slice none 0 0] 61)) s w1.heap.size (fun k => k = w1.heap.size) [] :=
  ⟨_, Bk.new _ _ _, Qu.nil _ _ _ _, rfl, fun k hk => (by cases hk), fun k hk => by have e : k = w1.heap.size := hk; subst e; simp⟩
theorem M.bel_facts {h : Int} {L : List Int} {n : Int} (hE : M.belE h L n = 0) : M.setB h L = true ∧ M.okB h n = true ∧ (∀ k, k < (M.belV h L n).length → (M.belV h L n)[k]?.getD 0 ∈ L ∧ M.low h n ≤ (M.belV h L n)[k]?.getD 0 ∧ (M.belV h L n)[k]?.getD 0 ≤ M.high h n ∧ 0 ≤ (M.belV h L n)[k]?.getD 0 ∧ (M.belV h L n)[k]?.getD 0 < M.p2 h) := by
  obtain ⟨h1, h2⟩ := M.belE_iff.1 hE
  refine ⟨h1, h2, fun k hk => ?_⟩
  rw [M.belV_yes hE] at hk ⊢
  have hm : (M.belL (M.low h n) (M.high h n) L)[k]?.getD 0 ∈ M.belL (M.low h n) (M.high h n) L := by
    rw [List.getElem?_eq_getElem hk]; exact List.getElem_mem hk
  obtain ⟨a, b, c⟩ := M.belL_mem.1 hm
  have := (M.set_of h1).2.2.2.2.2 _ a
  exact ⟨a, b, c, this⟩
end Go.Proofs.Ythmiekinjfaflaa
