/-
  What the closure that tells whether a node is above a set's leaf comes to, and the children in and out of the tree. Conditions: the boxes hold a height and a set.
-/
import Derived.Test.YthmiekinjfaflaaZO0
import Derived.Test.YthmiekinjfaflaaZO1
import Derived.Test.YthmiekinjfaflaaZS1
import Derived.Test.YthmiekinjfaflaaZW1
namespace Go.Proofs.Ythmiekinjfaflaa
open Go.RowKit
namespace M
theorem getD_rise {L : List Int} (h : L.Pairwise (· < ·)) {a b : Nat} (hab : a ≤ b) (hb : b < L.length) : L[a]?.getD 0 ≤ L[b]?.getD 0 := by
  rcases Nat.lt_or_ge a b with hlt | hge
  · have := List.pairwise_iff_getElem.1 h a b (by omega) hb hlt
    rw [List.getElem?_eq_getElem hb, List.getElem?_eq_getElem (show a < L.length by omega)]
    simp only [Option.getD_some]; omega
  · obtain rfl : a = b := by omega
    exact Int.le_refl _
theorem inT_pos {h : Int} {L : List Int} {n : Int} (hL : L.Pairwise (· < ·)) (hk : okB h n = true) :
    (pos L (low h n) < L.length → inT h L n = decide (L[pos L (low h n)]?.getD 0 ≤ high h n)) ∧ (¬ pos L (low h n) < L.length → inT h L n = false) := by
  constructor
  · intro hp
    rw [Bool.eq_iff_iff, inT_iff, decide_eq_true_eq]
    constructor
    · rintro ⟨_, i, hi, h1, h2⟩
      obtain ⟨a, ha, rfl⟩ := List.mem_iff_getElem.1 hi
      have h3 : ¬ a < pos L (low h n) := fun h => by
        have := (pos_lt hL ha).1 h
        rw [List.getElem?_eq_getElem ha, Option.getD_some] at this
        omega
      have h4 := getD_rise hL (show pos L (low h n) ≤ a by omega) ha
      rw [List.getElem?_eq_getElem ha, Option.getD_some] at h4
      omega
    · intro h2
      have h3 : ¬ L[pos L (low h n)]?.getD 0 < low h n := fun hx => by have := (pos_lt (x := low h n) hL hp).2 hx; omega
      refine ⟨hk, _, ?_, by omega, h2⟩
      rw [List.getElem?_eq_getElem hp, Option.getD_some]
      exact List.getElem_mem hp
  · intro hp
    rw [Bool.eq_false_iff]
    intro hx
    obtain ⟨_, i, hi, h1, h2⟩ := inT_iff.1 hx
    obtain ⟨a, ha, rfl⟩ := List.mem_iff_getElem.1 hi
    have := (pos_lt (x := low h n) hL ha).1 (by omega)
    rw [List.getElem?_eq_getElem ha, Option.getD_some] at this
    omega
end M
theorem us_view {W : World} {v : Value} {L : List Int} (h : Us W v L) : ∃ ao cap, v = .slice ao L.length cap ∧ L.length ≤ 9223372036854775807 ∧ (0 < L.length → ∃ b off, ao = some ⟨b, off, none⟩ ∧ b < W.heap.size) := by
  obtain ⟨ao, cap, h1, h2, h3, h4, h5⟩ := h
  refine ⟨ao, cap, h1, ?_, fun h0 => ?_⟩
  · unfold maxLen at h3; omega
  · obtain ⟨b, off, h6, h7, _⟩ := h5 (by omega)
    exact ⟨b, off, h6, h7⟩
theorem Us.cellAt {W : World} {b off n cap : Nat} {L : List Int} (h : Us W (.slice (some ⟨b, off, none⟩) n cap) L) (j : Nat) (hj : j < L.length) : W.cell? ⟨b, off + j, none⟩ = some (.int .u64 (L[j]?.getD 0)) := by
  obtain ⟨ao, cap', h1, h2, h3, h4, h5⟩ := h
  obtain ⟨b', off', h6, h7, h8⟩ := h5 (by omega)
  cases h1
  cases h6
  exact h8 j hj
end Go.Proofs.Ythmiekinjfaflaa
namespace Go.Proofs.Ythmiekinjfaflaa
open Go.RowKit
namespace M
def twoK (n : Int) (k : Nat) : List Int := (List.range k).map fun (s : Nat) => 2 * n + s
def kidK (h : Int) (L : List Int) (n : Int) (k : Nat) : List Int := (twoK n k).filter (inT h L)
def outK (h : Int) (L : List Int) (n : Int) (k : Nat) : List Int := (twoK n k).filter (fun c => !inT h L c)
theorem twoK_succ (n : Int) (k : Nat) : twoK n (k + 1) = twoK n k ++ [2 * n + k] := by unfold twoK; rw [List.range_succ, List.map_append]; rfl
theorem kidK_yes {h : Int} {L : List Int} {n : Int} {k : Nat} (hc : inT h L (2 * n + k) = true) : kidK h L n (k + 1) = kidK h L n k ++ [2 * n + k] ∧ outK h L n (k + 1) = outK h L n k := by
  unfold kidK outK
  rw [twoK_succ, List.filter_append, List.filter_append]; simp [hc]
theorem kidK_no {h : Int} {L : List Int} {n : Int} {k : Nat} (hc : inT h L (2 * n + k) = false) : kidK h L n (k + 1) = kidK h L n k ∧ outK h L n (k + 1) = outK h L n k ++ [2 * n + k] := by
  unfold kidK outK
  rw [twoK_succ, List.filter_append, List.filter_append]; simp [hc]
theorem kidK_two {h : Int} {L : List Int} {n : Int} (hl : n < p2 h) : kidK h L n 2 = kid h L n ∧ outK h L n 2 = outk h L n := by
  have e : twoK n 2 = [2 * n, 2 * n + 1] := by simp [twoK, List.range_succ]
  unfold kidK outK kid outk
  rw [if_pos hl, if_pos hl, e]; exact ⟨rfl, rfl⟩
theorem kidK_len (h : Int) (L : List Int) (n : Int) (k : Nat) : (kidK h L n k).length ≤ k ∧ (outK h L n k).length ≤ k := by
  have e : (twoK n k).length = k := by simp [twoK]
  have h1 : (kidK h L n k).length ≤ _ := List.length_filter_le _ _
  have h2 : (outK h L n k).length ≤ _ := List.length_filter_le _ _
  rw [e] at h1 h2
  exact ⟨h1, h2⟩
end M
theorem qu_beside {W W' : World} {base : Nat} {e : TypeId} {x y : Value} {B : List Int} (g : W.grownBy W' (qblk x)) (QY : Qu W base e y B) (hap : ∀ k, qblk x = some k → qblk y ≠ some k) : Qu W' base e y B :=
  QY.kept fun k hk => g.block k (QY.lt k hk).2 fun e => hap k e.symm hk
theorem qu_apart {W : World} {base : Nat} {e : TypeId} {x x' y : Value} {B : List Int} (hn : ∀ k, qblk x' = some k → qblk x = some k ∨ W.heap.size ≤ k) (QY : Qu W base e y B) (hap : ∀ k, qblk x = some k → qblk y ≠ some k) : ∀ k, qblk x' = some k → qblk y ≠ some k := by
  intro k hk he
  rcases hn k hk with h | h
  · exact hap k h he
  · have := (QY.lt k he).2; omega
theorem qu_flip {x y : Value} (hap : ∀ k, qblk x = some k → qblk y ≠ some k) : ∀ k, qblk y = some k → qblk x ≠ some k := fun k h1 h2 => hap k h2 h1
theorem below_qu {s : Nat} {W0 W W' : World} {base : Nat} {e : TypeId} {x : Value} {A : List Int} (hb : Below s W0 W) (g : W.grownBy W' (qblk x)) (Q : Qu W base e x A) (hs : s ≤ base) (hs2 : s ≤ W.heap.size) : Below s W0 W' :=
  hb.grown g hs2 fun k hk => by have := (Q.lt k hk).1; omega
end Go.Proofs.Ythmiekinjfaflaa
namespace Go.Proofs.Ythmiekinjfaflaa
open Go.RowKit
/-- outside a territory all stays -/
structure Ows (T : Nat → Prop) (w w' : World) : Prop where
  os : w'.os = w.os
  tape : w'.tape = w.tape
  output : w'.output = w.output
  size : w.heap.size ≤ w'.heap.size
  block : ∀ i, i < w.heap.size → ¬ T i → w'.heap[i]? = w.heap[i]?
theorem Ows.of_grown {T : Nat → Prop} {w w' : World} {row : Option Nat} (h : w.grownBy w' row) (hr : ∀ k, row = some k → T k) : Ows T w w' :=
  ⟨h.os, h.tape, h.output, h.size, fun i hi ht => h.block i hi fun e => ht (hr i e.symm)⟩
theorem Ows.trans {T : Nat → Prop} {a b c : World} (h : Ows T a b) (k : Ows T b c) : Ows T a c :=
  ⟨k.os.trans h.os, k.tape.trans h.tape, k.output.trans h.output, Nat.le_trans h.size k.size, fun i hi ht => (k.block i (Nat.lt_of_lt_of_le hi h.size) ht).trans (h.block i hi ht)⟩
theorem Ows.alloc (T : Nat → Prop) (w : World) (o : Obj) : Ows T w (w.alloc o) := Ows.of_grown (World.grownBy_alloc w o none) fun _ e => by cases e
/-- a box of a number, and its territory -/
def MS (W : World) (B : Nat) (T : Nat → Prop) (m : Int) : Prop := Bk W B (.int .i64 m) 3 ∧ T B ∧ ∀ k, T k → k < W.heap.size
/-- a box of a row of numbers, and its territory -/
def RS (W : World) (s B : Nat) (T : Nat → Prop) (L : List Int) : Prop := ∃ f, Bk W B f 61 ∧ Qu W s 22 f L ∧ T B ∧ (∀ k, qblk f = some k → T k) ∧ ∀ k, T k → k < W.heap.size
theorem MS.kept {W W' : World} {B : Nat} {T : Nat → Prop} {m : Int} (h : MS W B T m) (hk : ∀ k, T k → W'.heap[k]? = W.heap[k]?) (hz : W.heap.size ≤ W'.heap.size) : MS W' B T m :=
  ⟨h.1.kept (hk B h.2.1), h.2.1, fun k ht => by have := h.2.2 k ht; omega⟩
theorem RS.kept {W W' : World} {s B : Nat} {T : Nat → Prop} {L : List Int} (h : RS W s B T L) (hk : ∀ k, T k → W'.heap[k]? = W.heap[k]?) (hz : W.heap.size ≤ W'.heap.size) : RS W' s B T L := by
  obtain ⟨f, h1, h2, h3, h4, h5⟩ := h
  exact ⟨f, h1.kept (hk B h3), h2.kept fun k hq => hk k (h4 k hq), h3, h4, fun k ht => by have := h5 k ht; omega⟩
theorem MS.size {W : World} {B : Nat} {T : Nat → Prop} {m : Int} (h : MS W B T m) : ∀ k, T k → k < W.heap.size := h.2.2
theorem RS.size {W : World} {s B : Nat} {T : Nat → Prop} {L : List Int} (h : RS W s B T L) : ∀ k, T k → k < W.heap.size := by
  obtain ⟨_, _, _, _, _, h5⟩ := h; exact h5
theorem qu_bk {W : World} {B : Nat} {v : Value} {t : TypeId} (hb : Bk W B v t) {s : Nat} {e : TypeId} {f : Value} {L : List Int} (hq : Qu W s e f L) (hne : t ≠ e) : ∀ k, qblk f = some k → k ≠ B := by
  obtain ⟨ao, cap, rfl, h2, h3, h4, h5⟩ := hq
  intro k hk he
  subst he
  obtain ⟨h0, a, e1, e2⟩ := qblk_some hk
  obtain ⟨g, off, cur, e3, h6, h7, _⟩ := h5 h0
  rw [e1] at e3
  cases e3
  cases e2
  have h' : W.heap[g]? = _ := hb
  rw [h'] at h7
  simp only [Option.some.injEq, Obj.cells.injEq] at h7
  exact hne h7.2.1
set_option maxRecDepth 100000 in
/-- a box's row is appended to, and stored -/
theorem rs_next {W w0 w3 : World} {s B : Nat} {T : Nat → Prop} {f v : Value} {L L' : List Int} (hT : T B) (hfT : ∀ k, qblk f = some k → T k) (hsz : ∀ k, T k → k < W.heap.size)
    (h0 : Ows T W w0) (hq0 : Qu w0 s 22 f L) (hb0 : Bk w0 B f 61) (hq3 : Qu w3 s 22 v L') (hg : w0.grownBy w3 (qblk f)) (hn : ∀ k, qblk v = some k → qblk f = some k ∨ w0.heap.size ≤ k) (hte : (61 : TypeId) ≠ 22) :
    Bk w3 B f 61 ∧ RS (w3.setCell ⟨B, 0, none⟩ v) s B (fun k => T k ∨ (W.heap.size ≤ k ∧ k < w3.heap.size)) L' ∧ Ows T W (w3.setCell ⟨B, 0, none⟩ v) := by
  have hbne := qu_bk hb0 hq0 hte
  have hB3 : Bk w3 B f 61 := hb0.kept (hg.block B hb0.lt fun e => hbne B e.symm rfl)
  have hvB : ∀ k, qblk v = some k → k ≠ B := fun k hk he => by
    rcases hn k hk with h | h
    · exact hbne k h he
    · have := hb0.lt; omega
  refine ⟨hB3, ⟨v, hB3.set v, hq3.kept fun k hk => heap_setCell_other _ _ k v (hvB k hk), .inl hT, fun k hk => ?_, fun k hk => ?_⟩, ?_⟩
  · rcases hn k hk with h | h
    · exact .inl (hfT k h)
    · exact .inr ⟨by have := h0.size; omega, (hq3.lt k hk).2⟩
  · have := hg.size
    have := h0.size
    rcases hk with h | h
    · have := hsz k h; simp; omega
    · simp; omega
  · refine h0.trans ((Ows.of_grown hg hfT).trans (Ows.of_grown (grown_set w3 B 0 v) fun k hk => by cases hk; exact hT))
def M.frk (h : Int) (L : List Int) (n : Int) : Bool := decide ((M.kid h L n).length = 2)
end Go.Proofs.Ythmiekinjfaflaa
