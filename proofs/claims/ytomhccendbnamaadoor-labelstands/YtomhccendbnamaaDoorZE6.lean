/-
  What the program's Wrap of values comes to at every input. Conditions: the slice holds terms; whole numbers are such.
-/
import Derived.Test.YtomhccendbnamaaDoorZNX
namespace Go.Proofs.YtomhccendbnamaaDoor
open Go.RowKit
theorem M.two_iff {A : List M.Tm} {k v : M.Val} : M.mbs A [k, v] = true ↔ M.Two A k v := by
  rw [M.mbs_two]; simp
end Go.Proofs.YtomhccendbnamaaDoor
namespace Go.Proofs.YtomhccendbnamaaDoor
open Go.RowKit
end Go.Proofs.YtomhccendbnamaaDoor
namespace Go.Proofs.YtomhccendbnamaaDoor
open Go.RowKit
theorem M.live1 : M.atomA [] true 0 (0#64, 0#64) = (M.ofT 0, [(1, 0, 0)], 0) := by kernel_rfl
theorem M.live2 : M.atomA [(1, 0, 0)] true 1 (0#64, 0#64) = (M.ofT 1, [(1, 0, 0), (1, 1, 0)], 0) := by kernel_rfl
theorem M.live3 : M.wrapA [(1, 0, 0), (1, 1, 0)] (M.ofT 0) (M.ofT 1) = (M.ofT 2, [(1, 0, 0), (1, 1, 0), (5, 0, 1)], 0) := by kernel_rfl
theorem M.live4 : M.unA [(1, 0, 0), (1, 1, 0), (5, 0, 1)] (M.ofT 1) (M.ofT 2) = (M.zV, 7) := by kernel_rfl
theorem ts_own {W : World} {base : Nat} {e : TypeId} {v : Value} {L : List M.Tm} (h : W.ownsRow base e 3 v L.length (elTm.cells L)) (hf : ∀ x ∈ L, M.fitT x) : Ts W v L := Sl.of_own (E := elTm) h hf
end Go.Proofs.YtomhccendbnamaaDoor
namespace Go.Proofs.YtomhccendbnamaaDoor
open Go.RowKit
theorem fits_ans {A : List M.Tm} (hA : ∀ x ∈ A, M.fitT x) {t : M.Tm} (ht : M.fitT t) : ∀ x ∈ (M.mkT A t).2.1, M.fitT x := by
  unfold M.mkT
  by_cases h : M.makeE A t = 0
  · rw [if_pos h]; exact M.make_fit hA ht
  · rw [if_neg h]; intro x hx; cases hx
theorem fits_oct {A : List M.Tm} (hA : ∀ x ∈ A, M.fitT x) {v : M.Val} : ∀ x ∈ (M.mkO A v).2.1, M.fitT x := by
  unfold M.mkO
  by_cases h : M.Ok A
  · rw [if_pos h]; exact hA
  · rw [if_neg h]; intro x hx; cases hx
theorem fits_part {A : List M.Tm} (hA : ∀ x ∈ A, M.fitT x) {v : M.Val} {i : Int} (hv : M.fitI v.2.2.2.2) {x : M.Val} {L : List M.Tm} {n : Int} (h : M.partA A v i = (x, L, n)) : ∀ x ∈ L, M.fitT x := by
  have e : L = (M.partA A v i).2.1 := by rw [h]
  rw [e]
  unfold M.partA
  by_cases hp : M.PartOk A v i
  · rw [if_pos hp]
    by_cases hs : v.1 = true
    · rw [if_pos hs]; exact fits_ans hA (fit3 (fit_lit (by have := hp.2.2.1; omega) (by have := hp.2.2.2; omega)) hv (fit_lit (by decide) (by decide)))
    · rw [if_neg hs]; exact fits_oct hA
  · rw [if_neg hp]; intro x hx; cases hx
theorem fits_wrap {A : List M.Tm} (hA : ∀ x ∈ A, M.fitT x) {k v : M.Val} (hk : M.fitI k.2.2.2.2) (hv : M.fitI v.2.2.2.2) {x : M.Val} {L : List M.Tm} {n : Int} (h : M.wrapA A k v = (x, L, n)) : ∀ x ∈ L, M.fitT x := by
  have e : L = (M.wrapA A k v).2.1 := by rw [h]
  rw [e]
  unfold M.wrapA
  by_cases hp : M.WrapOk A k v
  · rw [if_pos hp]
    by_cases hs : k.1 = true
    · rw [if_pos hs]; exact fits_ans hA (fit3 (fit_lit (by decide) (by decide)) hk hv)
    · rw [if_neg hs]; exact fits_oct hA
  · rw [if_neg hp]; intro x hx; cases hx
end Go.Proofs.YtomhccendbnamaaDoor
