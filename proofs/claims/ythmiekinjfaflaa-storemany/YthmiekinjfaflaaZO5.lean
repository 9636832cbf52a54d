/-
  What steiner.above answers, and what eachNode comes to with the closures of Many, Forks and Hang: the nodes of a set's tree, told one by one. Conditions: the list is a set that is not empty, the box lies apart from it.
-/
import Derived.Test.YthmiekinjfaflaaZO2
namespace Go.Proofs.Ythmiekinjfaflaa
open Go.RowKit
/-- a loop's measure: how far the first one in the queue is from the end -/
def headM (v : Value) (W : World) : Nat :=
  match v with
  | .slice (some a) (_ + 1) _ => match W.cell? a with
    | some (.int _ x) => (17179869184 - x).toNat
    | _ => 0
  | _ => 0
theorem headM_nil {W : World} {base : Nat} {e : TypeId} {v : Value} (h : Qu W base e v []) : headM v W = 0 := by
  obtain ⟨ao, cap, rfl, -⟩ := h.form
  cases ao <;> rfl
theorem headM_cons {W : World} {base : Nat} {e : TypeId} {v : Value} {x : Int} {L : List Int} (h : Qu W base e v (x :: L)) : headM v W = (17179869184 - x).toNat := by
  obtain ⟨ao, cap, rfl, -, h3⟩ := h.form
  obtain ⟨g, off, rfl⟩ := h3 (by simp)
  have := h.head
  simp only [List.length_cons]
  unfold headM
  simp only [this.1]
theorem headM_less {W W' : World} {base b' : Nat} {e e' : TypeId} {v v' : Value} {h : Int} {L T Q : List Int} {q : Int} (b : M.Bfs h L T (q :: Q)) (h1 : Qu W base e v (q :: Q)) (h2 : Qu W' b' e' v' (Q ++ M.kid h L q)) : headM v' W' < headM v W := by
  have hq := M.ok_lt (M.inT_iff.1 (b.mem q (by simp))).1
  rw [headM_cons h1]
  have b2 := b.step
  generalize hR : Q ++ M.kid h L q = R at *
  cases R with
  | nil => rw [headM_nil h2]; omega
  | cons r R' =>
    rw [headM_cons h2]
    have hr := M.ok_lt (M.inT_iff.1 (b2.mem r (by simp))).1
    have hlt : q < r := by
      have := b2.rise
      rw [List.pairwise_append] at this
      exact this.2.2 q (by simp) r (by simp)
    omega
theorem qu_next {W : World} {base : Nat} {e : TypeId} {g off n cap m : Nat} {x : Int} {L : List Int} (h : Qu W base e (.slice (some ⟨g, off, none⟩) n cap) (x :: L)) (hm : m = L.length) :
    Qu W base e (.slice (if cap = 1 then some ⟨g, off, none⟩ else some ⟨g, off + 1, none⟩) m (cap - 1)) L ∧ ∀ k, qblk (.slice (if cap = 1 then some ⟨g, off, none⟩ else some ⟨g, off + 1, none⟩) m (cap - 1)) = some k → qblk (.slice (some ⟨g, off, none⟩) n cap) = some k := by
  subst hm
  obtain ⟨h1, h2, h3, h4, h5, h6⟩ := h.head
  by_cases hc : cap = 1
  · have hL : L = [] := List.eq_nil_of_length_eq_zero (by omega)
    subst hL
    rw [if_pos hc]
    subst hc
    exact ⟨Qu.nil _ _ _ _, fun k hk => by cases hk⟩
  · rw [if_neg hc]
    refine ⟨by have := h.tail; rw [h3] at this; exact this, fun k hk => ?_⟩
    obtain ⟨k1, a, k2, k3⟩ := qblk_some hk
    cases k2
    rw [qblk_slice, if_neg (by omega), ← k3]
theorem grown_id (w : World) (row : Option Nat) : w.grownBy w row := ⟨rfl, rfl, rfl, Nat.le_refl _, fun _ _ _ => rfl⟩
theorem grown_below {w w' : World} {row : Option Nat} (hb : Below w.heap.size w w') : w.grownBy w' row := ⟨hb.os, hb.tape, hb.output, hb.size, fun k hk _ => hb.block k hk⟩
/-- the set's slice stays while one box behind it turns -/
theorem us_box {w0 w w' : World} {v : Value} {L : List Int} {B : Nat} (u : Us w0 v L) (hb : Below w0.heap.size w0 w) (hB : w0.heap.size ≤ B) (g : w.grownBy w' (some B)) : Us w' v L :=
  u.below (hb.grown g hb.size fun k hk => by cases hk; exact hB)

end Go.Proofs.Ythmiekinjfaflaa
