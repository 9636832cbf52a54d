/-
  An argument that can be read holds places; the document's SameInts by a named answer; which lists are few. Conditions: each theorem's own premises.
-/
import Derived.Test.YthkkclhjpgkhaaaV6
import Derived.Test.YthkkclhjpgkhaaaU16
namespace Go.Proofs.Ythkkclhjpgkhaaa
open Go.ChangeShapes Go.WideShapes Go.ChangeAt Go.RowKit
theorem is_of_trod {H : Type} {enc : TypeId × Value → H} {W : World} {v : Value} {d : DataW H} {p : List MemPlace} {base : Nat} (hok : Value.okWide Try.prog W .any base 23 v)
    (h : DataW.Trod enc Try.prog W 0 (fun _ => true) true 23 v d p) (hlt : ∀ x ∈ p, x.block < W.heap.size) : ∃ L, Is W v L :=
  sl_of_trod (E := elInt) Try.cellsInt (fun n cs y hl hy => by
    match cs, hl with
    | [u], _ =>
      obtain ⟨a, ha, _, wa⟩ := DataW.trod_int Try.underlying3 hy
      have e0 : u = .int .i64 a := by simpa [Value.cells] using ha
      exact ⟨a, by rw [e0]; rfl, bounds_i64 wa⟩) hok h hlt
theorem sameInts_eq {A B : List Int} {r : Bool} (h : decide (A = B) = r) {v1 v2 : Value} (w : World) (u1 : Is w v1 A) (u2 : Is w v2 B) :
    Calls Try.prog 20 #[v1, v2] w fun e w' => e = .returned (.bool r) ∧ Below w.heap.size w w' := by subst h; exact sameInts_any A B v1 v2 w u1 u2
/-- few enough, of one list of places and of two -/
def M.Few1 (A : List M.Tm) (H : List Int) : Prop := A.length ≤ 40 ∧ M.Fw H
def M.Few2 (A : List M.Tm) (H L : List Int) : Prop := A.length ≤ 40 ∧ M.Fw H ∧ M.Fw L
theorem few1_yes {A : List M.Tm} {H : List Int} (h : M.Few1 A H) {v1 v2 : Value} (w : World) (u1 : Ts w v1 A) (u2 : Iss w v2 [H]) :
    Calls Try.prog 11 #[v1, v2] w fun e w' => e = .returned (.bool true) ∧ w' = w := few_any A [H] true ⟨fun _ => ⟨by simpa using h.2, h.1⟩, fun _ => rfl⟩ v1 v2 w u1 u2
theorem few1_no {A : List M.Tm} {H : List Int} (h : ¬ M.Few1 A H) {v1 v2 : Value} (w : World) (u1 : Ts w v1 A) (u2 : Iss w v2 [H]) :
    Calls Try.prog 11 #[v1, v2] w fun e w' => e = .returned (.bool false) ∧ w' = w := few_any A [H] false ⟨fun h => by (cases h), fun h' => absurd ⟨h'.2, by simpa using h'.1⟩ h⟩ v1 v2 w u1 u2
theorem few2_yes {A : List M.Tm} {H L : List Int} (h : M.Few2 A H L) {v1 v2 : Value} (w : World) (u1 : Ts w v1 A) (u2 : Iss w v2 [H, L]) :
    Calls Try.prog 11 #[v1, v2] w fun e w' => e = .returned (.bool true) ∧ w' = w := few_any A [H, L] true ⟨fun _ => ⟨by simpa using h.2, h.1⟩, fun _ => rfl⟩ v1 v2 w u1 u2
theorem few2_no {A : List M.Tm} {H L : List Int} (h : ¬ M.Few2 A H L) {v1 v2 : Value} (w : World) (u1 : Ts w v1 A) (u2 : Iss w v2 [H, L]) :
    Calls Try.prog 11 #[v1, v2] w fun e w' => e = .returned (.bool false) ∧ w' = w := few_any A [H, L] false ⟨fun h => by (cases h), fun h' => absurd ⟨h'.2, by simpa using h'.1⟩ h⟩ v1 v2 w u1 u2
end Go.Proofs.Ythkkclhjpgkhaaa
