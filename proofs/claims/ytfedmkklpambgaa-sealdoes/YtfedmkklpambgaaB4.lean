/-
  A block of sixteen octets in memory; what octetsOf makes. No condition.
-/
import Derived.Test.YtfedmkklpambgaaB3
import Derived.Test.YtfedmkklpambgaaNO
namespace Go.Proofs.Ytfedmkklpambgaa
open Go.RowKit
/-- sixteen octets as the program holds them -/
def octV (f : Nat → Int) : Value := .agg #[.int .u8 (f 0), .int .u8 (f 1), .int .u8 (f 2), .int .u8 (f 3), .int .u8 (f 4), .int .u8 (f 5), .int .u8 (f 6), .int .u8 (f 7), .int .u8 (f 8), .int .u8 (f 9), .int .u8 (f 10), .int .u8 (f 11), .int .u8 (f 12), .int .u8 (f 13), .int .u8 (f 14), .int .u8 (f 15)]
def octC (f : Nat → Int) : Array Value := #[.int .u8 (f 0), .int .u8 (f 1), .int .u8 (f 2), .int .u8 (f 3), .int .u8 (f 4), .int .u8 (f 5), .int .u8 (f 6), .int .u8 (f 7), .int .u8 (f 8), .int .u8 (f 9), .int .u8 (f 10), .int .u8 (f 11), .int .u8 (f 12), .int .u8 (f 13), .int .u8 (f 14), .int .u8 (f 15)]
theorem octC_get (f : Nat → Int) (j : Nat) (hj : j < 16) : (octC f)[j]? = some (.int .u8 (f j)) := by
  have : j = 0 ∨ j = 1 ∨ j = 2 ∨ j = 3 ∨ j = 4 ∨ j = 5 ∨ j = 6 ∨ j = 7 ∨ j = 8 ∨ j = 9 ∨ j = 10 ∨ j = 11 ∨ j = 12 ∨ j = 13 ∨ j = 14 ∨ j = 15 := by omega
  rcases this with rfl | rfl | rfl | rfl | rfl | rfl | rfl | rfl | rfl | rfl | rfl | rfl | rfl | rfl | rfl | rfl <;> rfl
theorem octC_size (f : Nat → Int) : (octC f).size = 16 := rfl
theorem octC_set (f : Nat → Int) (j : Nat) (v : Int) : (octC f).setIfInBounds j (.int .u8 v) = octC (fun i => if i = j then v else f i) := by
  apply Array.ext_getElem?
  intro i
  rw [Array.getElem?_setIfInBounds, octC_size]
  by_cases hi : i < 16
  · rw [octC_get _ i hi, octC_get _ i hi]
    by_cases h : j = i
    · subst h; simp [hi]
    · rw [if_neg h, if_neg (fun e => h e.symm)]
  · have h1 : (octC f)[i]? = none := Array.getElem?_eq_none (by rw [octC_size]; omega)
    have h2 : (octC (fun i => if i = j then v else f i))[i]? = none := Array.getElem?_eq_none (by rw [octC_size]; omega)
    rw [h1, h2]
    by_cases h : j = i
    · rw [if_pos h, if_neg (by omega)]
    · rw [if_neg h]
theorem octC_congr {f g : Nat → Int} (h : ∀ j, j < 16 → f j = g j) : octC f = octC g := by
  unfold octC
  rw [h 0 (by decide), h 1 (by decide), h 2 (by decide), h 3 (by decide), h 4 (by decide), h 5 (by decide), h 6 (by decide), h 7 (by decide), h 8 (by decide), h 9 (by decide), h 10 (by decide), h 11 (by decide), h 12 (by decide), h 13 (by decide), h 14 (by decide), h 15 (by decide)]
theorem octV_congr {f g : Nat → Int} (h : ∀ j, j < 16 → f j = g j) : octV f = octV g := congrArg Value.agg (octC_congr h)
/-- a block of sixteen cells -/
def Bx16 (W : World) (B : Nat) (f : Nat → Int) : Prop := W.heap[B]? = some (.cells (octC f) 48 (0, 0))
theorem Bx16.lt {W : World} {B : Nat} {f : Nat → Int} (h : Bx16 W B f) : B < W.heap.size := (Array.getElem?_eq_some_iff.1 h).1
theorem Bx16.cell {W : World} {B : Nat} {f : Nat → Int} (h : Bx16 W B f) (j : Nat) (hj : j < 16) : W.cell? ⟨B, j, none⟩ = some (.int .u8 (f j)) := by
  have h' : W.heap[B]? = _ := h
  have := octC_get f j hj
  simp [World.cell?, h', this]
theorem Bx16.frozen {W : World} {B : Nat} {f : Nat → Int} (h : Bx16 W B f) (j : Nat) : W.frozen? ⟨B, j, none⟩ = false := by
  have h' : W.heap[B]? = _ := h
  simp [World.frozen?, h']
theorem Bx16.alloc {W : World} {B : Nat} {f : Nat → Int} (h : Bx16 W B f) (o : Obj) : Bx16 (W.alloc o) B f := (Below.heap_alloc _ _ _ h.lt).trans h
theorem Bx16.below {W W' : World} {B : Nat} {f : Nat → Int} (h : Bx16 W B f) (hb : Below W.heap.size W W') : Bx16 W' B f := (hb.block B h.lt).trans h
theorem Bx16.other {W : World} {B : Nat} {f : Nat → Int} (h : Bx16 W B f) {p : Addr} (hp : B ≠ p.block) (v : Value) : Bx16 (W.setCell p v) B f := (Below.heap_setCell _ _ _ _ hp).trans h
theorem Bx16.set {W : World} {B : Nat} {f : Nat → Int} (h : Bx16 W B f) (j : Nat) (v : Int) : Bx16 (W.setCell ⟨B, j, none⟩ (.int .u8 v)) B (fun i => if i = j then v else f i) := by
  have h' : W.heap[B]? = _ := h
  unfold Bx16
  simp only [World.setCell, Array.getElem?_modify, if_true, h', Option.map_some, octC_set, Option.isSome_none, Bool.false_eq_true, if_false]
theorem Bx16.congr {W : World} {B : Nat} {f g : Nat → Int} (h : Bx16 W B f) (e : ∀ j, j < 16 → f j = g j) : Bx16 W B g := by
  unfold Bx16 at h ⊢; rw [h, octC_congr e]
theorem Bx16.new (W : World) (f : Nat → Int) : Bx16 (W.alloc (.cells (octC f) 48)) W.heap.size f := by
  show (W.heap.push _)[W.heap.size]? = _
  simp
theorem Bx16.set16 {W : World} {B : Nat} {f : Nat → Int} (h : Bx16 W B f) (g : Nat → Int) : Bx16 ((((((((((((((((W.setCell ⟨B, 0, none⟩ (.int .u8 (g 0))).setCell ⟨B, 1, none⟩ (.int .u8 (g 1))).setCell ⟨B, 2, none⟩ (.int .u8 (g 2))).setCell ⟨B, 3, none⟩ (.int .u8 (g 3))).setCell ⟨B, 4, none⟩ (.int .u8 (g 4))).setCell ⟨B, 5, none⟩ (.int .u8 (g 5))).setCell ⟨B, 6, none⟩ (.int .u8 (g 6))).setCell ⟨B, 7, none⟩ (.int .u8 (g 7))).setCell ⟨B, 8, none⟩ (.int .u8 (g 8))).setCell ⟨B, 9, none⟩ (.int .u8 (g 9))).setCell ⟨B, 10, none⟩ (.int .u8 (g 10))).setCell ⟨B, 11, none⟩ (.int .u8 (g 11))).setCell ⟨B, 12, none⟩ (.int .u8 (g 12))).setCell ⟨B, 13, none⟩ (.int .u8 (g 13))).setCell ⟨B, 14, none⟩ (.int .u8 (g 14))).setCell ⟨B, 15, none⟩ (.int .u8 (g 15))) B g := by
  refine ((((((((((((((((h.set 0 (g 0)).set 1 (g 1)).set 2 (g 2)).set 3 (g 3)).set 4 (g 4)).set 5 (g 5)).set 6 (g 6)).set 7 (g 7)).set 8 (g 8)).set 9 (g 9)).set 10 (g 10)).set 11 (g 11)).set 12 (g 12)).set 13 (g 13)).set 14 (g 14)).set 15 (g 15)).congr fun j hj => ?_
  have : j = 0 ∨ j = 1 ∨ j = 2 ∨ j = 3 ∨ j = 4 ∨ j = 5 ∨ j = 6 ∨ j = 7 ∨ j = 8 ∨ j = 9 ∨ j = 10 ∨ j = 11 ∨ j = 12 ∨ j = 13 ∨ j = 14 ∨ j = 15 := by omega
  rcases this with rfl | rfl | rfl | rfl | rfl | rfl | rfl | rfl | rfl | rfl | rfl | rfl | rfl | rfl | rfl | rfl <;> rfl
theorem below_set16 {w W : World} {B : Nat} (h : Below w.heap.size w W) (hB : w.heap.size ≤ B) (g : Nat → Int) : Below w.heap.size w ((((((((((((((((W.setCell ⟨B, 0, none⟩ (.int .u8 (g 0))).setCell ⟨B, 1, none⟩ (.int .u8 (g 1))).setCell ⟨B, 2, none⟩ (.int .u8 (g 2))).setCell ⟨B, 3, none⟩ (.int .u8 (g 3))).setCell ⟨B, 4, none⟩ (.int .u8 (g 4))).setCell ⟨B, 5, none⟩ (.int .u8 (g 5))).setCell ⟨B, 6, none⟩ (.int .u8 (g 6))).setCell ⟨B, 7, none⟩ (.int .u8 (g 7))).setCell ⟨B, 8, none⟩ (.int .u8 (g 8))).setCell ⟨B, 9, none⟩ (.int .u8 (g 9))).setCell ⟨B, 10, none⟩ (.int .u8 (g 10))).setCell ⟨B, 11, none⟩ (.int .u8 (g 11))).setCell ⟨B, 12, none⟩ (.int .u8 (g 12))).setCell ⟨B, 13, none⟩ (.int .u8 (g 13))).setCell ⟨B, 14, none⟩ (.int .u8 (g 14))).setCell ⟨B, 15, none⟩ (.int .u8 (g 15))) :=
  ((((((((((((((((h.setCell (p := ⟨B, 0, none⟩) hB _).setCell (p := ⟨B, 1, none⟩) hB _).setCell (p := ⟨B, 2, none⟩) hB _).setCell (p := ⟨B, 3, none⟩) hB _).setCell (p := ⟨B, 4, none⟩) hB _).setCell (p := ⟨B, 5, none⟩) hB _).setCell (p := ⟨B, 6, none⟩) hB _).setCell (p := ⟨B, 7, none⟩) hB _).setCell (p := ⟨B, 8, none⟩) hB _).setCell (p := ⟨B, 9, none⟩) hB _).setCell (p := ⟨B, 10, none⟩) hB _).setCell (p := ⟨B, 11, none⟩) hB _).setCell (p := ⟨B, 12, none⟩) hB _).setCell (p := ⟨B, 13, none⟩) hB _).setCell (p := ⟨B, 14, none⟩) hB _).setCell (p := ⟨B, 15, none⟩) hB _)
/-- what the result's variable is read as -/
theorem Bx16.facts {W : World} {B : Nat} {f : Nat → Int} (h : Bx16 W B f) : W.cell? ⟨B, 0, none⟩ = some (.int .u8 (f 0)) ∧ W.cell? ⟨B, 1, none⟩ = some (.int .u8 (f 1)) ∧ W.cell? ⟨B, 2, none⟩ = some (.int .u8 (f 2)) ∧ W.cell? ⟨B, 3, none⟩ = some (.int .u8 (f 3)) ∧ W.cell? ⟨B, 4, none⟩ = some (.int .u8 (f 4)) ∧ W.cell? ⟨B, 5, none⟩ = some (.int .u8 (f 5)) ∧ W.cell? ⟨B, 6, none⟩ = some (.int .u8 (f 6)) ∧ W.cell? ⟨B, 7, none⟩ = some (.int .u8 (f 7)) ∧ W.cell? ⟨B, 8, none⟩ = some (.int .u8 (f 8)) ∧ W.cell? ⟨B, 9, none⟩ = some (.int .u8 (f 9)) ∧ W.cell? ⟨B, 10, none⟩ = some (.int .u8 (f 10)) ∧ W.cell? ⟨B, 11, none⟩ = some (.int .u8 (f 11)) ∧ W.cell? ⟨B, 12, none⟩ = some (.int .u8 (f 12)) ∧ W.cell? ⟨B, 13, none⟩ = some (.int .u8 (f 13)) ∧ W.cell? ⟨B, 14, none⟩ = some (.int .u8 (f 14)) ∧ W.cell? ⟨B, 15, none⟩ = some (.int .u8 (f 15)) :=
  ⟨h.cell 0 (by decide), h.cell 1 (by decide), h.cell 2 (by decide), h.cell 3 (by decide), h.cell 4 (by decide), h.cell 5 (by decide), h.cell 6 (by decide), h.cell 7 (by decide), h.cell 8 (by decide), h.cell 9 (by decide), h.cell 10 (by decide), h.cell 11 (by decide), h.cell 12 (by decide), h.cell 13 (by decide), h.cell 14 (by decide), h.cell 15 (by decide)⟩
theorem ocN_step (b : M.Blk) (k j : Nat) : (if j = k then M.oc b k else M.ocN b k j) = M.ocN b (k + 1) j := by
  unfold M.ocN
  by_cases h : j = k
  · subst h; rw [if_pos rfl, if_pos (by omega)]
  · rw [if_neg h]
    by_cases h2 : j < k
    · rw [if_pos h2, if_pos (by omega)]
    · rw [if_neg h2, if_neg (by omega)]
theorem oc_low (b : M.Blk) (k : Nat) (h : k < 8) : M.nu b.1 / 2 ^ (8 * k) % 256 = M.oc b k := by
  unfold M.oc; rw [if_pos h, Nat.mod_eq_of_lt h]
theorem oc_high (b : M.Blk) (k m : Nat) (h : k = m + 8) (hm : m < 8) : M.nu b.2 / 2 ^ (8 * m) % 256 = M.oc b k := by
  unfold M.oc; rw [if_neg (by omega), show k % 8 = m by omega]
set_option maxHeartbeats 400000 in
theorem octetsOf_any (b : M.Blk) (w : World) :
    Calls Try.prog 36 #[blkV b] w fun e w' => e = .returned (octV (M.oc b)) ∧ Below w.heap.size w w' := by
  unfold blkV
  go_enter Try.func36, Try.ntmps36
  go_wp2
  go_loopw [5] (fun i wr => ∃ k : Nat, k ≤ 16 ∧ i = .int .i64 k ∧ Bx16 wr (w.heap.size + 1 + 1) (M.ocN b k) ∧ Bx2 wr w.heap.size b ∧ Bx16 wr (w.heap.size + 1) (fun _ => 0) ∧ Below w.heap.size w wr) (fun i _ => 16 - (intOf i).toNat)
  case atStart =>
    refine ⟨0, by omega, rfl, ?_, ?_, ?_, below_one (below_one (below_one (Below.refl _ _)))⟩
    · have h := Bx16.new ((w.alloc (.cells #[.int .u64 (M.nu b.1), .int .u64 (M.nu b.2)] 24)).alloc (.cells (octC fun _ => 0) 48)) (M.ocN b 0)
      rw [World.size_alloc, World.size_alloc] at h; exact h
    · exact ((Bx2.new w b).alloc _).alloc _
    · have h := (Bx16.new (w.alloc (.cells #[.int .u64 (M.nu b.1), .int .u64 (M.nu b.2)] 24)) (fun _ => 0)).alloc (.cells (octC fun _ => 0) 48)
      rw [World.size_alloc] at h; exact h
  case round =>
    obtain ⟨k, hk, rfl, hx, hy, hz, hb⟩ := hrel
    obtain ⟨hc0, hc1, hf0, hf1⟩ := hy.facts
    by_cases hlt : k < 16
    · have ho := hx.cell k hlt
      have hf := hx.frozen k
      by_cases h8 : k < 8
      · have q1 : (k : Int) / 8 = 0 := by omega
        have q2 : (k : Int) % 8 = k := by omega
        have e1 := oc_low b k h8
        go_wp2
        go_roundw
        case rel => exact ⟨k + 1, by omega, by go_num, (hx.set k (M.oc b k)).congr fun j _ => ocN_step b k j, hy.other (by simp; omega) _, hz.other (by simp) _, hb.setCell (by simp; omega) _⟩
        case measure => simp [intOf]; omega
      · obtain ⟨m, hm⟩ : ∃ m, k = m + 8 := ⟨k - 8, by omega⟩
        have q1 : (k : Int) / 8 = 1 := by omega
        have q2 : (k : Int) % 8 = m := by omega
        have e1 := oc_high b k m hm (by omega)
        have hm8 : m < 8 := by omega
        have HM := hid' hm
        clear hm
        go_wp2
        go_roundw
        case rel => exact ⟨k + 1, by omega, by go_num, (hx.set k (M.oc b k)).congr fun j _ => ocN_step b k j, hy.other (by simp; omega) _, hz.other (by simp) _, hb.setCell (by simp; omega) _⟩
        case measure => simp [intOf]; omega
    · have c1 : ∀ j, j < 16 → wr.cell? ⟨w.heap.size + 1 + 1, j, none⟩ = some (.int .u8 (M.oc b j)) := fun j hj => by rw [hx.cell j hj]; unfold M.ocN; rw [if_pos (by omega)]
      have c2 : ∀ j, j < 16 → wr.cell? ⟨w.heap.size + 1, j, none⟩ = some (.int .u8 0) := fun j hj => hz.cell j hj
      have f1 : ∀ j, wr.frozen? ⟨w.heap.size + 1, j, none⟩ = false := fun j => hz.frozen j
      have HZ := hid' hz
      clear hx hy hz hc0 hc1 hf0 hf1
      go_wp2
      have h16 := HZ.out.set16 (M.oc b)
      have b16 := below_set16 (B := w.heap.size + 1) hb (by omega) (M.oc b)
      generalize ((((((((((((((((wr.setCell ⟨w.heap.size + 1, 0, none⟩ (.int .u8 (M.oc b 0))).setCell ⟨w.heap.size + 1, 1, none⟩ (.int .u8 (M.oc b 1))).setCell ⟨w.heap.size + 1, 2, none⟩ (.int .u8 (M.oc b 2))).setCell ⟨w.heap.size + 1, 3, none⟩ (.int .u8 (M.oc b 3))).setCell ⟨w.heap.size + 1, 4, none⟩ (.int .u8 (M.oc b 4))).setCell ⟨w.heap.size + 1, 5, none⟩ (.int .u8 (M.oc b 5))).setCell ⟨w.heap.size + 1, 6, none⟩ (.int .u8 (M.oc b 6))).setCell ⟨w.heap.size + 1, 7, none⟩ (.int .u8 (M.oc b 7))).setCell ⟨w.heap.size + 1, 8, none⟩ (.int .u8 (M.oc b 8))).setCell ⟨w.heap.size + 1, 9, none⟩ (.int .u8 (M.oc b 9))).setCell ⟨w.heap.size + 1, 10, none⟩ (.int .u8 (M.oc b 10))).setCell ⟨w.heap.size + 1, 11, none⟩ (.int .u8 (M.oc b 11))).setCell ⟨w.heap.size + 1, 12, none⟩ (.int .u8 (M.oc b 12))).setCell ⟨w.heap.size + 1, 13, none⟩ (.int .u8 (M.oc b 13))).setCell ⟨w.heap.size + 1, 14, none⟩ (.int .u8 (M.oc b 14))).setCell ⟨w.heap.size + 1, 15, none⟩ (.int .u8 (M.oc b 15))) = W16 at *
      obtain ⟨r0, r1, r2, r3, r4, r5, r6, r7, r8, r9, r10, r11, r12, r13, r14, r15⟩ := h16.facts
      refine bodyPost_ret (v := octV (M.oc b)) (by simp [results, Try.results36, go_sem, octV, r0, r1, r2, r3, r4, r5, r6, r7, r8, r9, r10, r11, r12, r13, r14, r15]) rfl ⟨rfl, b16⟩
end Go.Proofs.Ytfedmkklpambgaa
