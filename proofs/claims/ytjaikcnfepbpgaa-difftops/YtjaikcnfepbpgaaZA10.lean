/-
  What Leaves and Split of package sub, and the document's own, answer at every input, in one form. Conditions: the numbers fit their kinds.
-/
import Derived.Test.YtjaikcnfepbpgaaZA9
namespace Go.Proofs.Ytjaikcnfepbpgaa
open Go.RowKit
def M.lvA (h I J : Int) : List (Int × Int) := if M.subB h I J then M.lvs h I J else []
def M.spA (h I J : Int) : List (Int × Int) := if M.subB h I J then M.spl h I J else []
theorem M.lvA_yes {h I J : Int} (hs : M.subB h I J = true) : M.lvA h I J = M.lvs h I J := if_pos hs
theorem M.lvA_no {h I J : Int} (hs : M.subB h I J = false) : M.lvA h I J = [] := by unfold M.lvA; rw [hs]; rfl
theorem M.spA_yes {h I J : Int} (hs : M.subB h I J = true) : M.spA h I J = M.spl h I J := if_pos hs
theorem M.spA_no {h I J : Int} (hs : M.subB h I J = false) : M.spA h I J = [] := by unfold M.spA; rw [hs]; rfl
set_option maxRecDepth 100000 in
theorem leaves8_all (h I J : Int) (w : World) (h0 : 0 ≤ I) (h1 : I ≤ 18446744073709551615) (h2 : 0 ≤ J) (h3 : J ≤ 18446744073709551615) :
    Calls Try.prog 18 #[.int .i64 h, .agg #[.int .u64 I, .int .u64 J]] w fun e w' => ∃ ao c, e = .returned (.tuple #[.slice ao (M.lvA h I J).length c, .int .i64 (M.subE h I J)]) ∧ Ps w' (.slice ao (M.lvA h I J).length c) (M.lvA h I J) ∧ Below w.heap.size w w' := by
  cases hs : M.subB h I J
  · rw [M.lvA_no hs, M.subE_no hs]
    refine (leaves8_no h I J w hs h0 h1 h2 h3).mono ?_
    rintro e w' ⟨rfl, hb⟩
    exact ⟨none, 0, rfl, Ps.empty, hb⟩
  · rw [M.lvA_yes hs, M.subE_yes hs]
    refine (leaves8_yes h I J w hs h0 h1 h2 h3).mono ?_
    rintro e w' ⟨v, rfl, hp, hb⟩
    obtain ⟨ao, c, rfl, _⟩ := hp.form
    exact ⟨_, _, rfl, hp, hb⟩
theorem Bi.new2 (W : World) (o o' : Obj) (t : TypeId) (x y : Int) : Bi (((W.alloc o).alloc o').alloc (.cells #[.int .u64 x, .int .u64 y] t)) (W.heap.size + 1 + 1) t x y := by
  have h := Bi.new ((W.alloc o).alloc o') t x y
  have e : ((W.alloc o).alloc o').heap.size = W.heap.size + 1 + 1 := by simp
  rw [e] at h; exact h
end Go.Proofs.Ytjaikcnfepbpgaa
