/-
  What the closure that tells whether a node is above a set's leaf comes to, and the children in and out of the tree. Conditions: the boxes hold a height and a set.
-/
import Derived.Test.YthmiekinjfaflaaGreatZLB
import Derived.Test.YthmiekinjfaflaaGreatZO1
import Derived.Test.YthmiekinjfaflaaGreatZR1
import Derived.Test.YthmiekinjfaflaaGreatZS1
import Derived.Test.YthmiekinjfaflaaGreatZW1
namespace Go.Proofs.YthmiekinjfaflaaGreat
open Go.RowKit
namespace M
theorem getD_rise {L : List Int} (h : L.Pairwise (· < ·)) {a b : Nat} (hab : a ≤ b) (hb : b < L.length) : L[a]?.getD 0 ≤ L[b]?.getD 0 := by
  rcases Nat.lt_or_ge a b with hlt | hge
  · have := List.pairwise_iff_getElem.1 h a b (by omega) hb hlt
    rw [List.getElem?_eq_getElem hb, List.getElem?_eq_getElem (show a < L.length by omega)]
    simp only [Option.getD_some]; omega
  · obtain rfl : a = b := by omega
    exact Int.le_refl _
theorem inT_pos {h : Int} {L : List Int} {n : Int} (hL : L.Pairwise (· < ·)) (hk : okB h n = true) :
    (pos L (low h n) < L.length → inT h L n = decide (L[pos L (low h n)]?.getD 0 ≤ high h n)) ∧ (¬ pos L (low h n) < L.length → inT h L n = false) := by
  constructor
  · intro hp
    rw [Bool.eq_iff_iff, inT_iff, decide_eq_true_eq]
    constructor
    · rintro ⟨_, i, hi, h1, h2⟩
      obtain ⟨a, ha, rfl⟩ := List.mem_iff_getElem.1 hi
      have h3 : ¬ a < pos L (low h n) := fun h => by
        have := (pos_lt hL ha).1 h
        rw [List.getElem?_eq_getElem ha, Option.getD_some] at this
        omega
      have h4 := getD_rise hL (show pos L (low h n) ≤ a by omega) ha
      rw [List.getElem?_eq_getElem ha, Option.getD_some] at h4
      omega
    · intro h2
      have h3 : ¬ L[pos L (low h n)]?.getD 0 < low h n := fun hx => by have := (pos_lt (x := low h n) hL hp).2 hx; omega
      refine ⟨hk, _, ?_, by omega, h2⟩
      rw [List.getElem?_eq_getElem hp, Option.getD_some]
      exact List.getElem_mem hp
  · intro hp
    rw [Bool.eq_false_iff]
    intro hx
    obtain ⟨_, i, hi, h1, h2⟩ := inT_iff.1 hx
    obtain ⟨a, ha, rfl⟩ := List.mem_iff_getElem.1 hi
    have := (pos_lt (x := low h n) hL ha).1 (by omega)
    rw [List.getElem?_eq_getElem ha, Option.getD_some] at this
    omega
end M
theorem us_view {W : World} {v : Value} {L : List Int} (h : Us W v L) : ∃ ao cap, v = .slice ao L.length cap ∧ L.length ≤ 9223372036854775807 ∧ (0 < L.length → ∃ b off, ao = some ⟨b, off, none⟩ ∧ b < W.heap.size) := by
  obtain ⟨ao, cap, h1, h2, h3, h4, h5⟩ := h
  refine ⟨ao, cap, h1, ?_, fun h0 => ?_⟩
  · unfold maxLen at h3; omega
  · obtain ⟨b, off, h6, h7, _⟩ := h5 (by omega)
    exact ⟨b, off, h6, h7⟩
theorem Us.cellAt {W : World} {b off n cap : Nat} {L : List Int} (h : Us W (.slice (some ⟨b, off, none⟩) n cap) L) (j : Nat) (hj : j < L.length) : W.cell? ⟨b, off + j, none⟩ = some (.int .u64 (L[j]?.getD 0)) := by
  obtain ⟨ao, cap', h1, h2, h3, h4, h5⟩ := h
  obtain ⟨b', off', h6, h7, h8⟩ := h5 (by omega)
  cases h1
  cases h6
  exact h8 j hj
end Go.Proofs.YthmiekinjfaflaaGreat
namespace Go.Proofs.YthmiekinjfaflaaGreat
open Go.RowKit
namespace M
def twoK (n : Int) (k : Nat) : List Int := (List.range k).map fun (s : Nat) => 2 * n + s
def kidK (h : Int) (L : List Int) (n : Int) (k : Nat) : List Int := (twoK n k).filter (inT h L)
def outK (h : Int) (L : List Int) (n : Int) (k : Nat) : List Int := (twoK n k).filter (fun c => !inT h L c)
theorem twoK_succ (n : Int) (k : Nat) : twoK n (k + 1) = twoK n k ++ [2 * n + k] := by unfold twoK; rw [List.range_succ, List.map_append]; rfl
theorem kidK_yes {h : Int} {L : List Int} {n : Int} {k : Nat} (hc : inT h L (2 * n + k) = true) : kidK h L n (k + 1) = kidK h L n k ++ [2 * n + k] ∧ outK h L n (k + 1) = outK h L n k := by
  unfold kidK outK
  rw [twoK_succ, List.filter_append, List.filter_append]; simp [hc]
theorem kidK_no {h : Int} {L : List Int} {n : Int} {k : Nat} (hc : inT h L (2 * n + k) = false) : kidK h L n (k + 1) = kidK h L n k ∧ outK h L n (k + 1) = outK h L n k ++ [2 * n + k] := by
  unfold kidK outK
  rw [twoK_succ, List.filter_append, List.filter_append]; simp [hc]
theorem kidK_two {h : Int} {L : List Int} {n : Int} (hl : n < p2 h) : kidK h L n 2 = kid h L n ∧ outK h L n 2 = outk h L n := by
  have e : twoK n 2 = [2 * n, 2 * n + 1] := by simp [twoK, List.range_succ]
  unfold kidK outK kid outk
  rw [if_pos hl, if_pos hl, e]; exact ⟨rfl, rfl⟩
theorem kidK_len (h : Int) (L : List Int) (n : Int) (k : Nat) : (kidK h L n k).length ≤ k ∧ (outK h L n k).length ≤ k := by
  have e : (twoK n k).length = k := by simp [twoK]
  have h1 : (kidK h L n k).length ≤ _ := List.length_filter_le _ _
  have h2 : (outK h L n k).length ≤ _ := List.length_filter_le _ _
  rw [e] at h1 h2
  exact ⟨h1, h2⟩
end M
theorem qu_beside {W W' : World} {base : Nat} {e : TypeId} {x y : Value} {B : List Int} (g : W.grownBy W' (qblk x)) (QY : Qu W base e y B) (hap : ∀ k, qblk x = some k → qblk y ≠ some k) : Qu W' base e y B :=
  QY.kept fun k hk => g.block k (QY.lt k hk).2 fun e => hap k e.symm hk
theorem qu_apart {W : World} {base : Nat} {e : TypeId} {x x' y : Value} {B : List Int} (hn : ∀ k, qblk x' = some k → qblk x = some k ∨ W.heap.size ≤ k) (QY : Qu W base e y B) (hap : ∀ k, qblk x = some k → qblk y ≠ some k) : ∀ k, qblk x' = some k → qblk y ≠ some k := by
  intro k hk he
  rcases hn k hk with h | h
  · exact hap k h he
  · have := (QY.lt k he).2; omega
theorem qu_flip {x y : Value} (hap : ∀ k, qblk x = some k → qblk y ≠ some k) : ∀ k, qblk y = some k → qblk x ≠ some k := fun k h1 h2 => hap k h2 h1
theorem below_qu {s : Nat} {W0 W W' : World} {base : Nat} {e : TypeId} {x : Value} {A : List Int} (hb : Below s W0 W) (g : W.grownBy W' (qblk x)) (Q : Qu W base e x A) (hs : s ≤ base) (hs2 : s ≤ W.heap.size) : Below s W0 W' :=
  hb.grown g hs2 fun k hk => by have := (Q.lt k hk).1; omega
end Go.Proofs.YthmiekinjfaflaaGreat
namespace Go.Proofs.YthmiekinjfaflaaGreat
open Go.RowKit
/-- outside a territory all stays -/
structure Ows (T : Nat → Prop) (w w' : World) : Prop where
  os : w'.os = w.os
  tape : w'.tape = w.tape
  output : w'.output = w.output
  size : w.heap.size ≤ w'.heap.size
  block : ∀ i, i < w.heap.size → ¬ T i → w'.heap[i]? = w.heap[i]?
theorem Ows.of_grown {T : Nat → Prop} {w w' : World} {row : Option Nat} (h : w.grownBy w' row) (hr : ∀ k, row = some k → T k) : Ows T w w' :=
  ⟨h.os, h.tape, h.output, h.size, fun i hi ht => h.block i hi fun e => ht (hr i e.symm)⟩
theorem Ows.trans {T : Nat → Prop} {a b c : World} (h : Ows T a b) (k : Ows T b c) : Ows T a c :=
  ⟨k.os.trans h.os, k.tape.trans h.tape, k.output.trans h.output, Nat.le_trans h.size k.size, fun i hi ht => (k.block i (Nat.lt_of_lt_of_le hi h.size) ht).trans (h.block i hi ht)⟩
theorem Ows.alloc (T : Nat → Prop) (w : World) (o : Obj) : Ows T w (w.alloc o) := Ows.of_grown (World.grownBy_alloc w o none) fun _ e => by cases e
/-- a box of a number, and its territory -/
def MS (W : World) (B : Nat) (T : Nat → Prop) (m : Int) : Prop := Bk W B (.int .i64 m) 3 ∧ T B ∧ ∀ k, T k → k < W.heap.size
/-- a box of a row of numbers, and its territory -/
def RS (W : World) (s B : Nat) (T : Nat → Prop) (L : List Int) : Prop := ∃ f, Bk W B f 68 ∧ Qu W s 23 f L ∧ T B ∧ (∀ k, qblk f = some k → T k) ∧ ∀ k, T k → k < W.heap.size
theorem MS.kept {W W' : World} {B : Nat} {T : Nat → Prop} {m : Int} (h : MS W B T m) (hk : ∀ k, T k → W'.heap[k]? = W.heap[k]?) (hz : W.heap.size ≤ W'.heap.size) : MS W' B T m :=
  ⟨h.1.kept (hk B h.2.1), h.2.1, fun k ht => by have := h.2.2 k ht; omega⟩
theorem RS.kept {W W' : World} {s B : Nat} {T : Nat → Prop} {L : List Int} (h : RS W s B T L) (hk : ∀ k, T k → W'.heap[k]? = W.heap[k]?) (hz : W.heap.size ≤ W'.heap.size) : RS W' s B T L := by
  obtain ⟨f, h1, h2, h3, h4, h5⟩ := h
  exact ⟨f, h1.kept (hk B h3), h2.kept fun k hq => hk k (h4 k hq), h3, h4, fun k ht => by have := h5 k ht; omega⟩
theorem MS.size {W : World} {B : Nat} {T : Nat → Prop} {m : Int} (h : MS W B T m) : ∀ k, T k → k < W.heap.size := h.2.2
theorem RS.size {W : World} {s B : Nat} {T : Nat → Prop} {L : List Int} (h : RS W s B T L) : ∀ k, T k → k < W.heap.size := by
  obtain ⟨_, _, _, _, _, h5⟩ := h; exact h5
theorem qu_bk {W : World} {B : Nat} {v : Value} {t : TypeId} (hb : Bk W B v t) {s : Nat} {e : TypeId} {f : Value} {L : List Int} (hq : Qu W s e f L) (hne : t ≠ e) : ∀ k, qblk f = some k → k ≠ B := by
  obtain ⟨ao, cap, rfl, h2, h3, h4, h5⟩ := hq
  intro k hk he
  subst he
  obtain ⟨h0, a, e1, e2⟩ := qblk_some hk
  obtain ⟨g, off, cur, e3, h6, h7, _⟩ := h5 h0
  rw [e1] at e3
  cases e3
  cases e2
  have h' : W.heap[g]? = _ := hb
  rw [h'] at h7
  simp only [Option.some.injEq, Obj.cells.injEq] at h7
  exact hne h7.2.1
set_option maxRecDepth 100000 in
/-- a box's row is appended to, and stored -/
theorem rs_next {W w0 w3 : World} {s B : Nat} {T : Nat → Prop} {f v : Value} {L L' : List Int} (hT : T B) (hfT : ∀ k, qblk f = some k → T k) (hsz : ∀ k, T k → k < W.heap.size)
    (h0 : Ows T W w0) (hq0 : Qu w0 s 23 f L) (hb0 : Bk w0 B f 68) (hq3 : Qu w3 s 23 v L') (hg : w0.grownBy w3 (qblk f)) (hn : ∀ k, qblk v = some k → qblk f = some k ∨ w0.heap.size ≤ k) (hte : (68 : TypeId) ≠ 23) :
    Bk w3 B f 68 ∧ RS (w3.setCell ⟨B, 0, none⟩ v) s B (fun k => T k ∨ (W.heap.size ≤ k ∧ k < w3.heap.size)) L' ∧ Ows T W (w3.setCell ⟨B, 0, none⟩ v) := by
  have hbne := qu_bk hb0 hq0 hte
  have hB3 : Bk w3 B f 68 := hb0.kept (hg.block B hb0.lt fun e => hbne B e.symm rfl)
  have hvB : ∀ k, qblk v = some k → k ≠ B := fun k hk he => by
    rcases hn k hk with h | h
    · exact hbne k h he
    · have := hb0.lt; omega
  refine ⟨hB3, ⟨v, hB3.set v, hq3.kept fun k hk => heap_setCell_other _ _ k v (hvB k hk), .inl hT, fun k hk => ?_, fun k hk => ?_⟩, ?_⟩
  · rcases hn k hk with h | h
    · exact .inl (hfT k h)
    · exact .inr ⟨by have := h0.size; omega, (hq3.lt k hk).2⟩
  · have := hg.size
    have := h0.size
    rcases hk with h | h
    · have := hsz k h; simp; omega
    · simp; omega
  · refine h0.trans ((Ows.of_grown hg hfT).trans (Ows.of_grown (grown_set w3 B 0 v) fun k hk => by cases hk; exact hT))
def M.frk (h : Int) (L : List Int) (n : Int) : Bool := decide ((M.kid h L n).length = 2)
end Go.Proofs.YthmiekinjfaflaaGreat
namespace Go.Proofs.YthmiekinjfaflaaGreat
open Go.RowKit
/-- a loop's measure: how far the first one in the queue is from the end -/
def headM (v : Value) (W : World) : Nat :=
  match v with
  | .slice (some a) (_ + 1) _ => match W.cell? a with
    | some (.int _ x) => (17179869184 - x).toNat
    | _ => 0
  | _ => 0
theorem headM_nil {W : World} {base : Nat} {e : TypeId} {v : Value} (h : Qu W base e v []) : headM v W = 0 := by
  obtain ⟨ao, cap, rfl, -⟩ := h.form
  cases ao <;> rfl
theorem headM_cons {W : World} {base : Nat} {e : TypeId} {v : Value} {x : Int} {L : List Int} (h : Qu W base e v (x :: L)) : headM v W = (17179869184 - x).toNat := by
  obtain ⟨ao, cap, rfl, -, h3⟩ := h.form
  obtain ⟨g, off, rfl⟩ := h3 (by simp)
  have := h.head
  simp only [List.length_cons]
  unfold headM
  simp only [this.1]
theorem headM_less {W W' : World} {base b' : Nat} {e e' : TypeId} {v v' : Value} {h : Int} {L T Q : List Int} {q : Int} (b : M.Bfs h L T (q :: Q)) (h1 : Qu W base e v (q :: Q)) (h2 : Qu W' b' e' v' (Q ++ M.kid h L q)) : headM v' W' < headM v W := by
  have hq := M.ok_lt (M.inT_iff.1 (b.mem q (by simp))).1
  rw [headM_cons h1]
  have b2 := b.step
  generalize hR : Q ++ M.kid h L q = R at *
  cases R with
  | nil => rw [headM_nil h2]; omega
  | cons r R' =>
    rw [headM_cons h2]
    have hr := M.ok_lt (M.inT_iff.1 (b2.mem r (by simp))).1
    have hlt : q < r := by
      have := b2.rise
      rw [List.pairwise_append] at this
      exact this.2.2 q (by simp) r (by simp)
    omega
theorem qu_next {W : World} {base : Nat} {e : TypeId} {g off n cap m : Nat} {x : Int} {L : List Int} (h : Qu W base e (.slice (some ⟨g, off, none⟩) n cap) (x :: L)) (hm : m = L.length) :
    Qu W base e (.slice (if cap = 1 then some ⟨g, off, none⟩ else some ⟨g, off + 1, none⟩) m (cap - 1)) L ∧ ∀ k, qblk (.slice (if cap = 1 then some ⟨g, off, none⟩ else some ⟨g, off + 1, none⟩) m (cap - 1)) = some k → qblk (.slice (some ⟨g, off, none⟩) n cap) = some k := by
  subst hm
  obtain ⟨h1, h2, h3, h4, h5, h6⟩ := h.head
  by_cases hc : cap = 1
  · have hL : L = [] := List.eq_nil_of_length_eq_zero (by omega)
    subst hL
    rw [if_pos hc]
    subst hc
    exact ⟨Qu.nil _ _ _ _, fun k hk => by cases hk⟩
  · rw [if_neg hc]
    refine ⟨by have := h.tail; rw [h3] at this; exact this, fun k hk => ?_⟩
    obtain ⟨k1, a, k2, k3⟩ := qblk_some hk
    cases k2
    rw [qblk_slice, if_neg (by omega), ← k3]
theorem grown_id (w : World) (row : Option Nat) : w.grownBy w row := ⟨rfl, rfl, rfl, Nat.le_refl _, fun _ _ _ => rfl⟩
theorem grown_below {w w' : World} {row : Option Nat} (hb : Below w.heap.size w w') : w.grownBy w' row := ⟨hb.os, hb.tape, hb.output, hb.size, fun k hk _ => hb.block k hk⟩
/-- the set's slice stays while one box behind it turns -/
theorem us_box {w0 w w' : World} {v : Value} {L : List Int} {B : Nat} (u : Us w0 v L) (hb : Below w0.heap.size w0 w) (hB : w0.heap.size ≤ B) (g : w.grownBy w' (some B)) : Us w' v L :=
  u.below (hb.grown g hb.size fun k hk => by cases hk; exact hB)

end Go.Proofs.YthmiekinjfaflaaGreat
namespace Go.Proofs.YthmiekinjfaflaaGreat
open Go.RowKit
namespace M
def isV (h : Int) (L : List Int) (n : Int) : Bool := decide (0 < (belV h L n).length)
def tmV (h : Int) (L : List Int) : Int := if setE h L = 0 then ((tree h L).length : Int) else 0
def tfV (h : Int) (L : List Int) : List Int := if setE h L = 0 then (tree h L).filter (frk h L) else []
def thV (h : Int) (L : List Int) : List Int := if setE h L = 0 then (if L.length = 0 then [1] else (tree h L).flatMap (outk h L)) else []
def dnE (h : Int) (L : List Int) (n : Int) : Int := if belE h L n = 0 then (if (belV h L n).length = 0 then 4 else 0) else 1
def fstL (L : List Int) : Int := L[0]?.getD 0
def lstL (L : List Int) : Int := L[L.length - 1]?.getD 0
def dnV (h : Int) (L : List Int) (n : Int) : Int := if dnE h L n = 0 then meet (p2 h + fstL (belV h L n)) (p2 h + lstL (belV h L n)) else 0
theorem tre_nil (h : Int) : ∀ k, tre h [] k = [] := fun k => by
  induction k with
  | zero => rfl
  | succ k ih => unfold tre lev; rw [ih]; rfl
theorem tree_nil (h : Int) : tree h [] = [] := tre_nil h _
theorem setE_zero {h : Int} {L : List Int} : setE h L = 0 ↔ setB h L = true := by
  unfold setE
  cases setB h L <;> simp
theorem setE_one {h : Int} {L : List Int} (hs : ¬ setE h L = 0) : setE h L = 1 := by
  unfold setE at hs ⊢
  cases hx : setB h L
  · rfl
  · rw [hx] at hs; exact absurd rfl hs
end M
set_option maxRecDepth 100000 in
theorem ms_new (w1 : World) : MS (w1.alloc (.cells #[.int .i64 0] 3)) w1.heap.size (fun k => k = w1.heap.size) ((([] : List Int).length : Nat) : Int) :=
  ⟨Bk.new _ _ _, rfl, fun k hk => by have e : k = w1.heap.size := hk; subst e; simp⟩
set_option maxRecDepth 100000 in
theorem rs_new (w1 : World) (s : Nat) : RS (w1.alloc (.cells #[.slice none 0 0] 68)) s w1.heap.size (fun k => k = w1.heap.size) [] :=
  ⟨_, Bk.new _ _ _, Qu.nil _ _ _ _, rfl, fun k hk => (by cases hk), fun k hk => by have e : k = w1.heap.size := hk; subst e; simp⟩
theorem M.bel_facts {h : Int} {L : List Int} {n : Int} (hE : M.belE h L n = 0) : M.setB h L = true ∧ M.okB h n = true ∧ (∀ k, k < (M.belV h L n).length → (M.belV h L n)[k]?.getD 0 ∈ L ∧ M.low h n ≤ (M.belV h L n)[k]?.getD 0 ∧ (M.belV h L n)[k]?.getD 0 ≤ M.high h n ∧ 0 ≤ (M.belV h L n)[k]?.getD 0 ∧ (M.belV h L n)[k]?.getD 0 < M.p2 h) := by
  obtain ⟨h1, h2⟩ := M.belE_iff.1 hE
  refine ⟨h1, h2, fun k hk => ?_⟩
  rw [M.belV_yes hE] at hk ⊢
  have hm : (M.belL (M.low h n) (M.high h n) L)[k]?.getD 0 ∈ M.belL (M.low h n) (M.high h n) L := by
    rw [List.getElem?_eq_getElem hk]; exact List.getElem_mem hk
  obtain ⟨a, b, c⟩ := M.belL_mem.1 hm
  have := (M.set_of h1).2.2.2.2.2 _ a
  exact ⟨a, b, c, this⟩
end Go.Proofs.YthmiekinjfaflaaGreat
namespace Go.Proofs.YthmiekinjfaflaaGreat
open Go.RowKit
theorem M.live9a : M.thV 2 [1] = [3, 4] := by decide +kernel
theorem M.live9b : M.setE 2 [1] = 0 := by decide +kernel
theorem us_two (w : World) (x y : Int) (e : TypeId) (hx : 0 ≤ x ∧ x ≤ 18446744073709551615) (hy : 0 ≤ y ∧ y ≤ 18446744073709551615) : Us (w.alloc (.cells #[.int .u64 x, .int .u64 y] e)) (.slice (some ⟨w.heap.size, 0, none⟩) 2 2) [x, y] :=
  ⟨_, 2, rfl, by simp, by simp [maxLen], by simp; omega, fun _ => ⟨w.heap.size, 0, rfl, by simp, fun j hj => by
    have h2 : j < 2 := by simpa using hj
    rw [cell_of_row _ _ _ _ _ _ (heap_alloc_new w _), Nat.zero_add]
    match j, h2 with
    | 0, _ => rfl
    | 1, _ => rfl⟩⟩
end Go.Proofs.YthmiekinjfaflaaGreat
namespace Go.Proofs.YthmiekinjfaflaaGreat
open Go.RowKit
namespace M
theorem psh_len : ∀ (X acc : List Int), (X.foldl psh acc).length ≤ acc.length + X.length
  | [], _ => by simp
  | x :: t, acc => by
    have h1 := psh_len t (psh acc x)
    have h2 : (psh acc x).length ≤ acc.length + 1 := by
      unfold psh
      split
      · omega
      · simp
    rw [List.foldl_cons, List.length_cons]; omega
theorem psh_none (x : Int) : psh [] x = [x] := rfl
theorem psh_same {C : List Int} {x : Int} (h0 : C.length ≠ 0) (h : C[C.length - 1]?.getD 0 = x) : psh C x = C := by
  unfold psh
  rw [List.getLast?_eq_getElem?, if_pos]
  rw [List.getElem?_eq_getElem (by omega)] at h ⊢
  rw [← h]; rfl
theorem psh_diff {C : List Int} {x : Int} (h : C[C.length - 1]?.getD 0 ≠ x) : psh C x = C ++ [x] := by
  unfold psh
  rw [List.getLast?_eq_getElem?, if_neg]
  intro e
  rw [e] at h
  exact h rfl
/-- what is gathered behind d levels, and k leaves -/
def trk (h : Int) (L : List Int) (d k : Nat) : List Int := ((L.take k).map (anc h d)).foldl psh (tre h L d)
theorem trk_zero (h : Int) (L : List Int) (d : Nat) : trk h L d 0 = tre h L d := rfl
theorem trk_succ {h : Int} {L : List Int} {d k : Nat} (hk : k < L.length) : trk h L d (k + 1) = psh (trk h L d k) (anc h d (L[k]?.getD 0)) := by
  unfold trk
  rw [take_getD k hk, List.map_append, List.foldl_append]; rfl
theorem trk_all {h : Int} {L : List Int} (hs : setB h L = true) {d : Nat} (hd : (d : Int) ≤ h) : trk h L d L.length = tre h L (d + 1) := by
  unfold trk
  rw [List.take_length]; exact tre_next hs d hd
theorem trk_len {h : Int} {L : List Int} (hs : setB h L = true) {d : Nat} (hd : (d : Int) ≤ h) (k : Nat) : (trk h L d k).length ≤ 40000 := by
  have h1 := psh_len ((L.take k).map (anc h d)) (tre h L d)
  have h2 := (tre_facts hs d (by omega)).2.2
  have h3 := set_of hs
  have h4 : d * L.length ≤ 33 * 1024 := Nat.mul_le_mul (by omega) h3.2.2.1
  have h5 : ((L.take k).map (anc h d)).length ≤ L.length := by rw [List.length_map, List.length_take]; omega
  unfold trk
  omega
end M
end Go.Proofs.YthmiekinjfaflaaGreat
namespace Go.Proofs.YthmiekinjfaflaaGreat
open Go.RowKit
namespace M
theorem has_tree {h : Int} {L : List Int} (hs : setB h L = true) (x : Int) : has (tree h L) x = inT h L x := by
  rw [Bool.eq_iff_iff, has_iff, (tree_facts hs).2.1]
theorem isV_yes {h : Int} {L : List Int} {n : Int} (hs : setB h L = true) (hk : okB h n = true) : belE h L n = 0 ∧ isV h L n = inT h L n := by
  have e := belE_iff.2 ⟨hs, hk⟩
  refine ⟨e, ?_⟩
  unfold isV
  rw [belV_yes e, inT_bel hk]
theorem isV_no {h : Int} {L : List Int} {n : Int} (hn : (okB h n && setB h L) = false) : belE h L n = 1 ∧ isV h L n = false := by
  have e : belE h L n ≠ 0 := fun e => by
    obtain ⟨h1, h2⟩ := belE_iff.1 e
    rw [h1, h2] at hn; cases hn
  obtain ⟨h1, h2⟩ := belV_no e
  refine ⟨h2, ?_⟩
  unfold isV
  rw [h1]; rfl
theorem may_one (h : Int) (L : List Int) : (okB h 1 && setB h L) = setB h L := by
  rw [ok_one]
  cases hs : setB h L
  · simp
  · have := set_of hs
    rw [ht_mk this.1 this.2.1]; rfl
theorem frk_eq {h : Int} {L : List Int} {n : Int} : frk h L n = (inT h L (2 * n) && inT h L (2 * n + 1)) := by
  unfold frk kid
  by_cases hl : n < p2 h
  · rw [if_pos hl]
    cases h1 : inT h L (2 * n) <;> cases h2 : inT h L (2 * n + 1) <;> simp [h1, h2]
  · rw [if_neg hl]
    cases h1 : inT h L (2 * n)
    · rfl
    · have := (ok_of (inT_iff.1 h1).1).2.2.2
      omega
def outD (h : Int) (L : List Int) (n : Int) (k : Nat) : List Int := (twoK n k).filter (fun c => okB h c && !inT h L c)
theorem outD_zero (h : Int) (L : List Int) (n : Int) : outD h L n 0 = [] := rfl
theorem outD_yes {h : Int} {L : List Int} {n : Int} {k : Nat} (hc : (okB h (2 * n + k) && !inT h L (2 * n + k)) = true) : outD h L n (k + 1) = outD h L n k ++ [2 * n + k] := by
  unfold outD
  rw [twoK_succ, List.filter_append]; simp only [List.filter_cons, List.filter_nil]; rw [if_pos hc]
theorem outD_no {h : Int} {L : List Int} {n : Int} {k : Nat} (hc : (okB h (2 * n + k) && !inT h L (2 * n + k)) = false) : outD h L n (k + 1) = outD h L n k := by
  unfold outD
  rw [twoK_succ, List.filter_append]; simp only [List.filter_cons, List.filter_nil]; rw [if_neg (by rw [hc]; decide), List.append_nil]
theorem outD_two {h : Int} {L : List Int} {n : Int} (hk : okB h n = true) : outD h L n 2 = outk h L n := by
  have e : twoK n 2 = [2 * n, 2 * n + 1] := by simp [twoK, List.range_succ]
  unfold outD outk
  rw [e]
  have kk := ok_of hk
  by_cases hl : n < p2 h
  · rw [if_pos hl]
    have h1 : okB h (2 * n) = true := ok_mk kk.1 kk.2.1 (by omega) (by omega)
    have h2 : okB h (2 * n + 1) = true := ok_mk kk.1 kk.2.1 (by omega) (by omega)
    refine List.filter_congr fun x hx => ?_
    simp at hx
    rcases hx with rfl | rfl
    · rw [h1]; rfl
    · rw [h2]; rfl
  · rw [if_neg hl]
    refine List.filter_eq_nil_iff.2 fun x hx => ?_
    simp at hx
    have : okB h x = false := by
      rw [Bool.eq_false_iff]
      intro ho
      have := (ok_of ho).2.2.2
      omega
    rw [this]; simp
theorem outD_len (h : Int) (L : List Int) (n : Int) (k : Nat) : (outD h L n k).length ≤ k := by
  have e : (twoK n k).length = k := by simp [twoK]
  have h1 : (outD h L n k).length ≤ _ := List.length_filter_le _ _
  omega
theorem flat_len {f : Int → List Int} (hf : ∀ n, (f n).length ≤ 2) : ∀ X : List Int, (X.flatMap f).length ≤ 2 * X.length
  | [] => by simp
  | x :: t => by
    have := flat_len hf t
    have := hf x
    rw [List.flatMap_cons, List.length_append, List.length_cons]; omega
theorem outk_len (h : Int) (L : List Int) (n : Int) : (outk h L n).length ≤ 2 := by
  unfold outk
  split
  · exact List.length_filter_le _ _
  · simp
end M
end Go.Proofs.YthmiekinjfaflaaGreat
