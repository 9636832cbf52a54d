/-
  What the document's own answers of layer 12 are, at every input: covers by each scheme, bounds, whether a subset may be. Conditions: the slice holds numbers, they fit their kind.
-/
import Derived.Test.YtmicgojojkkkhaaZJ3
import Derived.Test.YtmicgojojkkkhaaZLb4
import Derived.Test.YtmicgojojkkkhaaZTR
import Derived.Test.YtmicgojojkkkhaaZX0
namespace Go.Proofs.Ytmicgojojkkkhaa
open Go.RowKit
namespace M
def lyE (h k : Int) (L : List Int) : Int := if kB k && setB h L then 0 else 1
def lyL (h k : Int) (L : List Int) : List (Int × Int) := if kB k && setB h L then (if k = 1 then cvL h L else if k = 2 then dfL h L else ldL h L) else []
def lbE (h k many : Int) : Int := if kB k && cntB h many then 0 else 1
def lbV (h k many : Int) : Int := if kB k && cntB h many then (if k = 1 then bdV h many else if k = 2 then dbV h many else if many = 0 then 1 else 2 * (2 * many - 1)) else 0
theorem setE_not {h : Int} {L : List Int} (hs : setB h L = false) : setE h L = 1 := by unfold setE; rw [hs]; rfl
theorem set_ht {h : Int} {L : List Int} (hs : setB h L = true) : htB h = true := by obtain ⟨s1, s2, -⟩ := set_of hs; exact ht_mk s1 s2
theorem dfL_small {h : Int} {L : List Int} (hs : setB h L = true) : (dfL h L).length ≤ 2048 := by
  obtain ⟨b1, b2⟩ := dfL_bound hs
  obtain ⟨s1, s2, s3, -⟩ := set_of hs
  have : dbV h L.length ≤ 2047 := by unfold dbV; rw [b1, if_pos rfl]; split <;> omega
  omega
end M
end Go.Proofs.Ytmicgojojkkkhaa
namespace Go.Proofs.Ytmicgojojkkkhaa
open Go.RowKit
namespace M
theorem part_take (h : Int) (X : List (Int × Int)) (k : Nat) (s : Int × Int) (hk : X[k]? = some s) : (X.take (k + 1)).flatMap (fun s => spl h s.1 s.2) = (X.take k).flatMap (fun s => spl h s.1 s.2) ++ spl h s.1 s.2 := by
  rw [List.take_add_one, hk, List.flatMap_append]; simp
theorem spl_len (h I J : Int) : (spl h I J).length ≤ 2 := by unfold spl; split <;> (try split) <;> simp
theorem part_len (h : Int) : ∀ X : List (Int × Int), (X.flatMap fun s => spl h s.1 s.2).length ≤ 2 * X.length
  | [] => by simp
  | x :: t => by
    have := part_len h t
    have := spl_len h x.1 x.2
    rw [List.flatMap_cons, List.length_append, List.length_cons]; omega
theorem spl_fit {h I J : Int} (hs : subB h I J = true) : ∀ x ∈ spl h I J, 0 ≤ x.1 ∧ x.1 ≤ 18446744073709551615 ∧ 0 ≤ x.2 ∧ x.2 ≤ 18446744073709551615 := by
  have hI := (sub_of hs).1
  have k1 := (ok_of hI).2.2.1
  have k2 := ok_lt hI
  unfold spl
  by_cases hJ : J = 0
  · rw [if_pos hJ]; intro x hx; simp at hx; subst hx; dsimp only; omega
  · have hK := (sub_in hs hJ).1
    have j1 := (ok_of hK).2.2.1
    have j2 := ok_lt hK
    rw [if_neg hJ]
    cases hc : cutB h I J with
    | false => intro x hx; simp at hx; subst hx; dsimp only; omega
    | true =>
      obtain ⟨-, -, -, c4, -⟩ := cut_of hs hJ hc
      have m1 := (ok_of c4).2.2.1
      have m2 := ok_lt c4
      intro x hx
      simp at hx
      rcases hx with rfl | rfl <;> dsimp only <;> omega
end M
end Go.Proofs.Ytmicgojojkkkhaa
