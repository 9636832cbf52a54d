/-
  What the document's own number comes to. Condition: from 0 on, to 2 ^ 21.
-/
import Derived.Test.YtkggcfkjmmijbaaDoorT4
import Derived.Laws.IdiomStrings
import Derived.Lib.BufferRead
namespace Go.Proofs.YtkggcfkjmmijbaaDoor
open Go.RowKit
/-- a text as the program holds it -/
def M.str (L : List UInt8) : ByteArray := ⟨L.toArray⟩
theorem M.str_append (a b : List UInt8) : M.str a ++ M.str b = M.str (a ++ b) := by
  apply ByteArray.ext
  rw [ByteArray.data_append]
  simp [M.str]
theorem M.str_size (a : List UInt8) : (M.str a).size = a.length := by simp [M.str, ByteArray.size]
theorem M.str_inj {a b : List UInt8} : M.str a = M.str b ↔ a = b := by
  constructor
  · intro h
    have := congrArg (fun x => x.data.toList) h
    simpa [M.str] using this
  · rintro rfl; rfl
theorem conv1 {W : World} {g : Nat} {x : Int} (h0 : 0 ≤ x) (h1 : x ≤ 255) (hc : W.cell? ⟨g, 0, none⟩ = some (.int .u8 x)) : (convert 54 9 (.slice (some ⟨g, 0, none⟩) 1 1)).run Tryd.prog W = .ok (.string (M.str [UInt8.ofNat x.toNat])) W := by
  refine run_convert_bytes_back (P := Tryd.prog) W 54 9 5 ⟨g, 0, none⟩ 1 [UInt8.ofNat x.toNat] Tryd.underlying54 Tryd.underlying5 Tryd.underlying9 (fun j hj => ?_)
  have hj0 : j = 0 := by simpa using hj
  subst hj0
  rw [Addr.add_lit, Nat.add_zero, hc]
  simp
  omega
theorem cell_one (W : World) (x : Value) (T : TypeId) : (W.alloc (.cells #[x] T)).cell? ⟨W.heap.size, 0, none⟩ = some x := by
  have h : (W.alloc (.cells #[x] T)).heap[W.heap.size]? = some (.cells #[x] T (0, 0)) := heap_alloc_new W _
  unfold World.cell?
  rw [h]
  rfl
theorem wrap8 {x : Int} (h0 : 0 ≤ x) (h1 : x ≤ 255) : IntKind.u8.wrap x = x := by
  simp [IntKind.wrap, IntKind.bits, IntKind.signed]; omega
theorem wrap64 {x : Int} (h0 : -9223372036854775808 ≤ x) (h1 : x ≤ 9223372036854775807) : IntKind.i64.wrap x = x := by
  simp [IntKind.wrap, IntKind.bits, IntKind.signed]; omega
set_option maxRecDepth 100000 in
set_option maxHeartbeats 1000000 in
theorem rnumber_any (n : Nat) (hn : n ≤ 2097152) (w : World) :
    Calls Tryd.prog 42 #[.int .i64 n] w fun e w' => e = .returned (.string (M.str (Lib.decDigits n))) ∧ Below w.heap.size w w' := by
  induction n using Nat.strongRecOn generalizing w with
  | _ n ih =>
    obtain ⟨D, hD⟩ : ∃ D, Lib.decDigits n = D := ⟨_, rfl⟩
    rw [hD]
    by_cases h10 : n < 10
    · rw [Lib.decDigits_one h10] at hD
      have hw := wrap8 (x := 48 + (n : Int)) (by omega) (by omega)
      have hs : UInt8.ofNat (48 + (n : Int)).toNat = UInt8.ofNat (48 + n) := by rw [show (48 + (n : Int)).toNat = 48 + n by omega]
      have cv := fun W : World => conv1 (W := W.alloc (.cells #[.int .u8 (48 + (n : Int))] 5)) (g := W.heap.size) (x := 48 + (n : Int)) (by omega) (by omega) (cell_one W _ _)
      rw [hs, hD] at cv
      clear hs hD
      have h10i : (n : Int) < 10 := by omega
      go_enter Tryd.func42, Tryd.ntmps42
      go_wp2
      go_ret
      exact ⟨rfl, below_one (Below.refl _ _)⟩
    · rw [M.dec_big h10] at hD
      obtain ⟨m, hm⟩ : ∃ m, n / 10 = m := ⟨_, rfl⟩
      obtain ⟨r, hr⟩ : ∃ r, n % 10 = r := ⟨_, rfl⟩
      rw [hm, hr] at hD
      obtain ⟨D1, hD1⟩ : ∃ D1, Lib.decDigits m = D1 := ⟨_, rfl⟩
      obtain ⟨d, hd⟩ : ∃ d, [UInt8.ofNat (48 + r)] = d := ⟨_, rfl⟩
      rw [hD1, hd] at hD
      have hadd : M.str D1 ++ M.str d = M.str D := by rw [M.str_append, hD]
      have hz : ¬ 9223372036854775807 < (M.str D1).size + (M.str d).size := by
        rw [M.str_size, M.str_size, ← hD1, ← hd, Lib.decDigits_length]
        have := Lib.nDigits_le20 m (by omega)
        simp; omega
      have hw := wrap8 (x := 48 + (r : Int)) (by omega) (by omega)
      have hs : UInt8.ofNat (48 + (r : Int)).toNat = UInt8.ofNat (48 + r) := by rw [show (48 + (r : Int)).toNat = 48 + r by omega]
      have cell := cell_one
      have CV := hidq (fun (W : World) (g : Nat) (h : W.cell? ⟨g, 0, none⟩ = some (.int .u8 (48 + (r : Int)))) => conv1 (x := 48 + (r : Int)) (by omega) (by omega) h)
      rw [hs, hd] at CV
      have h10i : ¬ (n : Int) < 10 := by omega
      have hq1 : (n : Int).tdiv 10 = (m : Int) := by rw [← hm, Int.tdiv_eq_ediv_of_nonneg (by omega)]; omega
      have hq2 : (n : Int).tmod 10 = (r : Int) := by rw [← hr, Int.tmod_eq_emod_of_nonneg (by omega)]; omega
      have IH := hidq (ih m (by omega) (by omega))
      rw [hD1] at IH
      have cv := fun W : World => CV.out (W.alloc (.cells #[.int .u8 (48 + (r : Int))] 5)) W.heap.size (cell_one W _ _)
      have cvd : ∀ W : World, (convert 54 9 (.slice (some ⟨W.heap.size, 0, none⟩) 1 1)).run Tryd.prog (W.alloc (.cells #[.int .u8 (48 + (r : Int))] 5)).drew = .ok (.string (M.str d)) (W.alloc (.cells #[.int .u8 (48 + (r : Int))] 5)).drew := fun W => CV.out (W.alloc (.cells #[.int .u8 (48 + (r : Int))] 5)).drew W.heap.size (cell_one W _ _)
      have hw1 := wrap64 (x := (m : Int)) (by omega) (by omega)
      have hw2 := wrap64 (x := 48 + (r : Int)) (by omega) (by omega)
      clear hs hD hD1 hd hm hr ih
      go_enter Tryd.func42, Tryd.ntmps42
      go_wp2
      go_region_with (first | (go_at_call 42; refine (IH.out _).mono ?_; rintro e w1 ⟨rfl, hb1⟩; (first | (have c1 := CV.out w1 w.heap.size ((hb1.cell (p := ⟨w.heap.size, 0, none⟩) (by simp)).trans (cell_one w _ _))) | skip)))
      all_goals go_wp2
      all_goals go_ret
      all_goals first | exact ⟨rfl, below_trans (below_one (Below.refl _ _).drew) hb1⟩ | exact ⟨rfl, below_one (below_trans (Below.refl _ _).drew hb1)⟩ | trace_state
end Go.Proofs.YtkggcfkjmmijbaaDoor
