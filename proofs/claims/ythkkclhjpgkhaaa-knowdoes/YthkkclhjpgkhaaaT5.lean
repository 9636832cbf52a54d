/-
  What the document's own number comes to. Condition: from 0 on, to 2 ^ 21.
-/
import Derived.Test.YthkkclhjpgkhaaaT4
import Derived.Laws.IdiomStrings
import Derived.Lib.BufferRead
namespace Go.Proofs.Ythkkclhjpgkhaaa
open Go.RowKit
/-- a text as the program holds it -/
def M.str (L : List UInt8) : ByteArray := ⟨L.toArray⟩
theorem M.str_append (a b : List UInt8) : M.str a ++ M.str b = M.str (a ++ b) := by
  apply ByteArray.ext
  rw [ByteArray.data_append]
  simp [M.str]
theorem M.str_size (a : List UInt8) : (M.str a).size = a.length := by simp [M.str, ByteArray.size]
theorem M.str_inj {a b : List UInt8} : M.str a = M.str b ↔ a = b := by
  constructor
  · intro h
    have := congrArg (fun x => x.data.toList) h
    simpa [M.str] using this
  · rintro rfl; rfl
theorem cell_one (W : World) (x : Value) (T : TypeId) : (W.alloc (.cells #[x] T)).cell? ⟨W.heap.size, 0, none⟩ = some x := by
  have h : (W.alloc (.cells #[x] T)).heap[W.heap.size]? = some (.cells #[x] T (0, 0)) := heap_alloc_new W _
  unfold World.cell?
  rw [h]
  rfl
theorem wrap8 {x : Int} (h0 : 0 ≤ x) (h1 : x ≤ 255) : IntKind.u8.wrap x = x := by
  simp [IntKind.wrap, IntKind.bits, IntKind.signed]; omega
theorem wrap64 {x : Int} (h0 : -9223372036854775808 ≤ x) (h1 : x ≤ 9223372036854775807) : IntKind.i64.wrap x = x := by
  simp [IntKind.wrap, IntKind.bits, IntKind.signed]; omega
end Go.Proofs.Ythkkclhjpgkhaaa
