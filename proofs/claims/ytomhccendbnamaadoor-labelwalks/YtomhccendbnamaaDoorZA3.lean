/-
  What slices.ContainsFunc comes to with each of the closures of package sub; what within, meet, Has and Touch answer. Conditions: each theorem's own premises.
-/
import Derived.Test.YtomhccendbnamaaDoorZA1
import Derived.Deep.RegionHeld3
namespace Go.Proofs.YtomhccendbnamaaDoor
open Go.RowKit
theorem any_take_sp {p : Int × Int → Bool} {S : List (Int × Int)} {k : Nat} {x : Int × Int} (h : S[k]? = some x) (h0 : (S.take k).any p = false) (hx : p x = false) : (S.take (k + 1)).any p = false := by
  obtain ⟨hk, e⟩ := List.getElem?_eq_some_iff.1 h
  rw [List.take_succ_eq_append_getElem hk, List.any_append, h0, e]
  simp [hx]
theorem Ps.at {W : World} {b off n cap : Nat} {S : List (Int × Int)} (h : Ps W (.slice (some ⟨b, off, none⟩) n cap) S) {k : Nat} {x : Int × Int} (hk : S[k]? = some x) : W.cell? ⟨b, off + k * 2, none⟩ = some (.int .u64 x.1) ∧ W.cell? ⟨b, off + k * 2 + 1, none⟩ = some (.int .u64 x.2) := by
  obtain ⟨ao, c, e, h2, _, _, h5⟩ := h
  obtain ⟨hl, hx⟩ := List.getElem?_eq_some_iff.1 hk
  cases e
  obtain ⟨b', o', e', _, h7⟩ := h5 (by omega)
  cases e'
  have := h7 k hl
  have hd : S[k]?.getD (0, 0) = x := by rw [hk]; rfl
  rw [hd] at this
  exact this
theorem Ps.form {W : World} {v : Value} {S : List (Int × Int)} (h : Ps W v S) : ∃ ao cap, v = .slice ao S.length cap ∧ S.length ≤ cap ∧ cap ≤ maxLen ∧ (0 < cap → ∃ b off, ao = some ⟨b, off, none⟩) := by
  obtain ⟨ao, cap, h1, h2, h3, _, h5⟩ := h
  exact ⟨ao, cap, h1, h2, h3, fun h0 => by obtain ⟨b, off, h6, _⟩ := h5 h0; exact ⟨b, off, h6⟩⟩
def Bo (W : World) (B : Nat) (v : Value) (t : TypeId) : Prop := W.heap[B]? = some (.cells #[v] t (0, 0))
theorem Bo.lt {W : World} {B : Nat} {v : Value} {t : TypeId} (h : Bo W B v t) : B < W.heap.size := (Array.getElem?_eq_some_iff.1 h).1
theorem Bo.cell {W : World} {B : Nat} {v : Value} {t : TypeId} (h : Bo W B v t) : W.cell? ⟨B, 0, none⟩ = some v := by
  have h' : W.heap[B]? = _ := h
  unfold World.cell?
  rw [h']; rfl
theorem Bo.new (W : World) (v : Value) (t : TypeId) : Bo (W.alloc (.cells #[v] t)) W.heap.size v t := heap_alloc_new W _
theorem Bo.alloc {W : World} {B : Nat} {v : Value} {t : TypeId} (h : Bo W B v t) (o : Obj) : Bo (W.alloc o) B v t := (Below.heap_alloc _ _ _ h.lt).trans h
theorem Bo.below {W W' : World} {B : Nat} {v : Value} {t : TypeId} (h : Bo W B v t) (hb : Below W.heap.size W W') : Bo W' B v t := (hb.block B h.lt).trans h
end Go.Proofs.YtomhccendbnamaaDoor
namespace Go.Proofs.YtomhccendbnamaaDoor
open Go.RowKit
theorem M.sh_no {h I J i : Int} (hn : ¬ (M.subB h I J = true ∧ M.leafE h i = 0)) : M.shE h I J i = 1 ∧ M.shV h I J i = false := by
  have e : M.shE h I J i = 1 := by
    unfold M.shE
    cases hs : M.subB h I J
    · rfl
    · by_cases hl : M.leafE h i = 0
      · exact absurd ⟨hs, hl⟩ hn
      · rw [decide_eq_false hl]; rfl
  exact ⟨e, by unfold M.shV; rw [e]; rfl⟩
theorem M.sh_yes {h I J i : Int} (hs : M.subB h I J = true) (hl : M.leafE h i = 0) : M.shE h I J i = 0 ∧ M.shV h I J i = M.inS (M.lvs h I J) i := by
  have e : M.shE h I J i = 0 := by unfold M.shE; rw [hs, decide_eq_true hl]; rfl
  exact ⟨e, by unfold M.shV; rw [e]; simp⟩
end Go.Proofs.YtomhccendbnamaaDoor
namespace Go.Proofs.YtomhccendbnamaaDoor
open Go.RowKit
theorem Bi.new1 (W : World) (o : Obj) (t : TypeId) (x y : Int) : Bi ((W.alloc o).alloc (.cells #[.int .u64 x, .int .u64 y] t)) (W.heap.size + 1) t x y := by
  have h := Bi.new (W.alloc o) t x y
  have e : (W.alloc o).heap.size = W.heap.size + 1 := by simp
  rw [e] at h; exact h
theorem M.to_no {h I J K L : Int} (hn : ¬ (M.subB h I J = true ∧ M.subB h K L = true)) : M.toE h I J K L = 1 ∧ M.toV h I J K L = false := by
  unfold M.toE M.toV
  cases hs : M.subB h I J
  · exact ⟨rfl, rfl⟩
  · cases ht : M.subB h K L
    · exact ⟨rfl, rfl⟩
    · exact absurd ⟨hs, ht⟩ hn
theorem M.to_yes {h I J K L : Int} (hs : M.subB h I J = true) (ht : M.subB h K L = true) : M.toE h I J K L = 0 ∧ M.toV h I J K L = M.metB (M.lvs h I J) (M.lvs h K L) := by
  unfold M.toE M.toV; rw [hs, ht]; exact ⟨rfl, rfl⟩
end Go.Proofs.YtomhccendbnamaaDoor
