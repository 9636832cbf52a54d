/-
  Contracts by named answers; a slice of octets as a string. Conditions: each theorem's own premises.
-/
import Derived.Test.YthbacijbgjmigaaZB14
import Derived.Laws.IdiomStrings
import Derived.Lib.BufferRead
namespace Go.Proofs.Ythbacijbgjmigaa
open Go.RowKit
theorem fold_eq {c x : M.Blk} {L : List Int} {n : Int} (h : M.foldV c L = x) (hn : M.foldE L = n) {v : Value} (w : World) (hu : Bs w v L) : Calls Try.prog 61 #[.agg #[.int .u64 (M.nu c.1), .int .u64 (M.nu c.2)], v] w fun r w' => r = .returned (.tuple #[.agg #[.int .u64 (M.nu x.1), .int .u64 (M.nu x.2)], .int .i64 n]) ∧ Below w.heap.size w w' := by
  subst h; subst hn; exact fold_any c L v w hu
theorem rfold_eq {c x : M.Blk} {L : List Int} {n : Int} (h : M.foldV c L = x) (hn : M.foldE L = n) {v : Value} (w : World) (hu : Bs w v L) : Calls Try.prog 47 #[.agg #[.int .u64 (M.nu c.1), .int .u64 (M.nu c.2)], v] w fun r w' => r = .returned (.tuple #[.agg #[.int .u64 (M.nu x.1), .int .u64 (M.nu x.2)], .int .i64 n]) ∧ Below w.heap.size w w' := by
  subst h; subst hn; exact rfold_any c L v w hu
/-- the octets as a string -/
def M.strOf (L : List Int) : ByteArray := ⟨(L.map fun n => UInt8.ofNat n.toNat).toArray⟩
theorem conv_bs {W : World} {v : Value} {L : List Int} (h : Bs W v L) : (convert 82 9 v).run Try.prog W = .ok (.string (M.strOf L)) W := by
  obtain ⟨ao, cap, rfl, q1, q2, q3, q4⟩ := h
  cases ao with
  | none =>
    have h0 : L.length = 0 := by
      rcases Nat.eq_zero_or_pos L.length with h | h
      · exact h
      · obtain ⟨b, off, e, _⟩ := q4 (by omega); cases e
    have hL : L = [] := List.eq_nil_of_length_eq_zero h0
    subst hL
    exact Lib.run_convert_nil_bytes W 82 9 5 cap Try.underlying82 Try.underlying5 Try.underlying9
  | some ad =>
    have hl : (L.map fun n => UInt8.ofNat n.toNat).length = L.length := by simp
    have := run_convert_bytes_back (P := Try.prog) W 82 9 5 ad cap (L.map fun n => UInt8.ofNat n.toNat) Try.underlying82 Try.underlying5 Try.underlying9 (fun j hj => by
      rw [hl] at hj
      obtain ⟨b, off, e, _, hc⟩ := q4 (by omega)
      cases e
      rw [Addr.add_lit, hc j hj]
      obtain ⟨b0, b1⟩ := q3 _ (List.getElem_mem hj)
      simp [hj]
      omega)
    rw [hl] at this
    exact this
end Go.Proofs.Ythbacijbgjmigaa
