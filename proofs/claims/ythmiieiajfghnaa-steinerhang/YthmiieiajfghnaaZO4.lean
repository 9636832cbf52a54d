/-
  What is told of each node: what the closures of steiner.Many, Forks and Hang come to; a territory of blocks, outside which all stays. Conditions: each theorem's own premises.
-/
import Derived.Test.YthmiieiajfghnaaZO3
namespace Go.Proofs.Ythmiieiajfghnaa
open Go.RowKit
/-- outside a territory all stays -/
structure Ows (T : Nat → Prop) (w w' : World) : Prop where
  os : w'.os = w.os
  tape : w'.tape = w.tape
  output : w'.output = w.output
  size : w.heap.size ≤ w'.heap.size
  block : ∀ i, i < w.heap.size → ¬ T i → w'.heap[i]? = w.heap[i]?
theorem Ows.of_grown {T : Nat → Prop} {w w' : World} {row : Option Nat} (h : w.grownBy w' row) (hr : ∀ k, row = some k → T k) : Ows T w w' :=
  ⟨h.os, h.tape, h.output, h.size, fun i hi ht => h.block i hi fun e => ht (hr i e.symm)⟩
theorem Ows.trans {T : Nat → Prop} {a b c : World} (h : Ows T a b) (k : Ows T b c) : Ows T a c :=
  ⟨k.os.trans h.os, k.tape.trans h.tape, k.output.trans h.output, Nat.le_trans h.size k.size, fun i hi ht => (k.block i (Nat.lt_of_lt_of_le hi h.size) ht).trans (h.block i hi ht)⟩
theorem Ows.alloc (T : Nat → Prop) (w : World) (o : Obj) : Ows T w (w.alloc o) := Ows.of_grown (World.grownBy_alloc w o none) fun _ e => by cases e
/-- a box of a number, and its territory -/
def MS (W : World) (B : Nat) (T : Nat → Prop) (m : Int) : Prop := Bk W B (.int .i64 m) 3 ∧ T B ∧ ∀ k, T k → k < W.heap.size
/-- a box of a row of numbers, and its territory -/
def RS (W : World) (s B : Nat) (T : Nat → Prop) (L : List Int) : Prop := ∃ f, Bk W B f 22 ∧ Qu W s 23 f L ∧ T B ∧ (∀ k, qblk f = some k → T k) ∧ ∀ k, T k → k < W.heap.size
theorem MS.kept {W W' : World} {B : Nat} {T : Nat → Prop} {m : Int} (h : MS W B T m) (hk : ∀ k, T k → W'.heap[k]? = W.heap[k]?) (hz : W.heap.size ≤ W'.heap.size) : MS W' B T m :=
  ⟨h.1.kept (hk B h.2.1), h.2.1, fun k ht => by have := h.2.2 k ht; omega⟩
theorem RS.kept {W W' : World} {s B : Nat} {T : Nat → Prop} {L : List Int} (h : RS W s B T L) (hk : ∀ k, T k → W'.heap[k]? = W.heap[k]?) (hz : W.heap.size ≤ W'.heap.size) : RS W' s B T L := by
  obtain ⟨f, h1, h2, h3, h4, h5⟩ := h
  exact ⟨f, h1.kept (hk B h3), h2.kept fun k hq => hk k (h4 k hq), h3, h4, fun k ht => by have := h5 k ht; omega⟩
theorem MS.size {W : World} {B : Nat} {T : Nat → Prop} {m : Int} (h : MS W B T m) : ∀ k, T k → k < W.heap.size := h.2.2
theorem RS.size {W : World} {s B : Nat} {T : Nat → Prop} {L : List Int} (h : RS W s B T L) : ∀ k, T k → k < W.heap.size := by
  obtain ⟨_, _, _, _, _, h5⟩ := h; exact h5
theorem qu_bk {W : World} {B : Nat} {v : Value} {t : TypeId} (hb : Bk W B v t) {s : Nat} {e : TypeId} {f : Value} {L : List Int} (hq : Qu W s e f L) (hne : t ≠ e) : ∀ k, qblk f = some k → k ≠ B := by
  obtain ⟨ao, cap, rfl, h2, h3, h4, h5⟩ := hq
  intro k hk he
  subst he
  obtain ⟨h0, a, e1, e2⟩ := qblk_some hk
  obtain ⟨g, off, cur, e3, h6, h7, _⟩ := h5 h0
  rw [e1] at e3
  cases e3
  cases e2
  have h' : W.heap[g]? = _ := hb
  rw [h'] at h7
  simp only [Option.some.injEq, Obj.cells.injEq] at h7
  exact hne h7.2.1
/-- a box's row is appended to, and stored -/
theorem rs_next {W w0 w3 : World} {s B : Nat} {T : Nat → Prop} {f v : Value} {L L' : List Int} (hT : T B) (hfT : ∀ k, qblk f = some k → T k) (hsz : ∀ k, T k → k < W.heap.size)
    (h0 : Ows T W w0) (hq0 : Qu w0 s 23 f L) (hb0 : Bk w0 B f 22) (hq3 : Qu w3 s 23 v L') (hg : w0.grownBy w3 (qblk f)) (hn : ∀ k, qblk v = some k → qblk f = some k ∨ w0.heap.size ≤ k) (hte : (22 : TypeId) ≠ 23) :
    Bk w3 B f 22 ∧ RS (w3.setCell ⟨B, 0, none⟩ v) s B (fun k => T k ∨ (W.heap.size ≤ k ∧ k < w3.heap.size)) L' ∧ Ows T W (w3.setCell ⟨B, 0, none⟩ v) := by
  have hbne := qu_bk hb0 hq0 hte
  have hB3 : Bk w3 B f 22 := hb0.kept (hg.block B hb0.lt fun e => hbne B e.symm rfl)
  have hvB : ∀ k, qblk v = some k → k ≠ B := fun k hk he => by
    rcases hn k hk with h | h
    · exact hbne k h he
    · have := hb0.lt; omega
  refine ⟨hB3, ⟨v, hB3.set v, hq3.kept fun k hk => heap_setCell_other _ _ k v (hvB k hk), .inl hT, fun k hk => ?_, fun k hk => ?_⟩, ?_⟩
  · rcases hn k hk with h | h
    · exact .inl (hfT k h)
    · exact .inr ⟨by have := h0.size; omega, (hq3.lt k hk).2⟩
  · have := hg.size
    have := h0.size
    rcases hk with h | h
    · have := hsz k h; simp; omega
    · simp; omega
  · refine h0.trans ((Ows.of_grown hg hfT).trans (Ows.of_grown (grown_set w3 B 0 v) fun k hk => by cases hk; exact hT))
def M.frk (h : Int) (L : List Int) (n : Int) : Bool := decide ((M.kid h L n).length = 2)
set_option maxRecDepth 100000 in
set_option maxHeartbeats 2000000 in
theorem tell_many (_h n : Int) (_L : List Int) (B : Nat) (T : Nat → Prop) (X : List Int) (W : World) (vi vo : Value) (st : MS W B T X.length) (hX : X.length ≤ 40000) :
    Calls Try.prog 33 #[.int .u64 n, vi, vo, .pointer (some ⟨B, 0, none⟩)] W fun e w' => e = .returned (.tuple #[]) ∧ ∃ T', MS w' B T' (X ++ [n]).length ∧ Ows T W w' ∧ (∀ k, T' k → T k ∨ W.heap.size ≤ k) := by
  obtain ⟨h1, h2, h3⟩ := st
  have c1 := h1.cell
  have f1 := h1.frozen
  have hw : IntKind.i64.wrap ((X.length : Int) + 1) = (X.length : Int) + 1 := by rw [IntKind.wrap_i64]; omega
  have HS := hidq (h1.set (.int .i64 ((X.length : Int) + 1)))
  have HT := hidq h2
  have HZ := hidq h3
  rw [show ((X ++ [n]).length : Int) = (X.length : Int) + 1 by rw [List.length_append]; rfl]
  clear h1 h2 h3
  generalize X.length = m at *
  go_enter Try.func33, Try.ntmps33
  go_wp2
  go_end0
  exact ⟨rfl, T, ⟨HS.out, HT.out, fun k hk => by have := HZ.out k hk; simpa using this⟩, Ows.of_grown (grown_set _ _ _ _) (fun k hk => by cases hk; exact HT.out), fun k hk => .inl hk⟩
set_option maxRecDepth 100000 in
set_option maxHeartbeats 2000000 in
theorem tell_forks (h n : Int) (L : List Int) (s B : Nat) (T : Nat → Prop) (X : List Int) (W : World) (vi vo : Value) (st : RS W s B T (X.filter (M.frk h L))) (hX : X.length ≤ 40000) (hn0 : 0 ≤ n) (hn1 : n ≤ 18446744073709551615) (ui : Us W vi (M.kid h L n)) (hs : s ≤ W.heap.size) :
    Calls Try.prog 40 #[.int .u64 n, vi, vo, .pointer (some ⟨B, 0, none⟩)] W fun e w' => e = .returned (.tuple #[]) ∧ ∃ T', RS w' s B T' ((X ++ [n]).filter (M.frk h L)) ∧ Ows T W w' ∧ (∀ k, T' k → T k ∨ W.heap.size ≤ k) := by
  obtain ⟨i0, hi, hz0, hz1, hz2⟩ := info_parts Try.infoU64
  obtain ⟨ai, ci, rfl, -⟩ := us_view ui
  have hXl : (X.filter (M.frk h L)).length ≤ X.length := List.length_filter_le _ _
  by_cases hf : (M.kid h L n).length = 2
  · have e : (X ++ [n]).filter (M.frk h L) = X.filter (M.frk h L) ++ [n] := by rw [List.filter_append]; simp [M.frk, hf]
    rw [e, hf]
    generalize X.filter (M.frk h L) = F at *
    obtain ⟨f, h1, h2, h3, h4, h5⟩ := st
    obtain ⟨af, cf, rfl, -⟩ := h2.form
    have c1 := h1.cell
    have Q0 := hidq (h2.alloc (.cells #[.int .u64 n] 23))
    have HN := hidq (fun (w3 : World) v => rs_next (w3 := w3) (v := v) (L' := F ++ [n]) h3 h4 h5 (Ows.alloc T W (.cells #[.int .u64 n] 23)) (h2.alloc (.cells #[.int .u64 n] 23)) (h1.alloc (.cells #[.int .u64 n] 23)))
    clear h1 h2 h3 h4 h5 ui e hf
    go_enter Try.func40, Try.ntmps40
    go_wp2_with (at_builtin; refine wpList_append_qu rfl _ _ 22 rfl s 23 i0 Try.underlying22 hi hz0 hz1 hz2 _ F rfl Q0.out _ [n] rfl (Us.one _ _ _ hn0 hn1) (by simp only [List.length_cons, List.length_nil]; omega) (by simp; omega) ?_; intro v3 w3 q3 g3 n3; obtain ⟨ao3, cap3, rfl, -⟩ := q3.form; simp only [List.length_append, List.length_cons, List.length_nil, Nat.zero_add] at q3 n3; obtain ⟨r1, r2, r3⟩ := HN.out w3 _ q3 g3 n3 (by decide); have c3 := r1.cell; have f3 := r1.frozen; have R2 := hidq r2; have R3 := hidq r3; clear q3 g3 n3 r1 r2 r3)
    go_end0
    exact ⟨rfl, _, R2.out, R3.out, fun k hk => hk.imp id fun h => h.1⟩
  · have e : (X ++ [n]).filter (M.frk h L) = X.filter (M.frk h L) := by rw [List.filter_append]; simp [M.frk, hf]
    rw [e]
    have hfi : ((((M.kid h L n).length : Int)) == 2) = false := by rw [beq_eq_false_iff_ne]; omega
    have hfj : ¬ ((M.kid h L n).length : Int) = 2 := by omega
    have ST := hidq st
    clear st ui e hXl
    generalize (M.kid h L n).length = m at *
    go_enter Try.func40, Try.ntmps40
    go_wp2
    go_end0
    exact ⟨rfl, T, ST.out, ⟨rfl, rfl, rfl, Nat.le_refl _, fun _ _ _ => rfl⟩, fun k hk => .inl hk⟩
set_option maxRecDepth 100000 in
set_option maxHeartbeats 2000000 in
theorem tell_hang (h n : Int) (L : List Int) (s B : Nat) (T : Nat → Prop) (X : List Int) (W : World) (vi vo : Value) (st : RS W s B T (X.flatMap (M.outk h L))) (hX : X.length ≤ 40000) (uo : Us W vo (M.outk h L n)) (hs : s ≤ W.heap.size) :
    Calls Try.prog 41 #[.int .u64 n, vi, vo, .pointer (some ⟨B, 0, none⟩)] W fun e w' => e = .returned (.tuple #[]) ∧ ∃ T', RS w' s B T' ((X ++ [n]).flatMap (M.outk h L)) ∧ Ows T W w' ∧ (∀ k, T' k → T k ∨ W.heap.size ≤ k) := by
  obtain ⟨i0, hi, hz0, hz1, hz2⟩ := info_parts Try.infoU64
  have hXl : ∀ Y : List Int, (Y.flatMap (M.outk h L)).length ≤ 2 * Y.length := fun Y => by
    induction Y with
    | nil => simp
    | cons y t ih =>
      have : (M.outk h L y).length ≤ 2 := by
        unfold M.outk
        split
        · exact List.length_filter_le _ _
        · simp
      rw [List.flatMap_cons, List.length_append, List.length_cons]; omega
  have hl1 := hXl X
  have hl2 := hXl [n]
  rw [List.flatMap_cons, List.flatMap_nil, List.append_nil, List.length_singleton] at hl2
  have e : (X ++ [n]).flatMap (M.outk h L) = X.flatMap (M.outk h L) ++ M.outk h L n := by rw [List.flatMap_append]; simp
  rw [e]
  clear e hXl
  generalize X.flatMap (M.outk h L) = F at *
  generalize M.outk h L n = O at *
  obtain ⟨f, h1, h2, h3, h4, h5⟩ := st
  obtain ⟨af, cf, rfl, -⟩ := h2.form
  have c1 := h1.cell
  have Q0 := hidq h2
  have UO := hidq uo
  have HN := hidq (fun (w3 : World) v => rs_next (w3 := w3) (v := v) (L' := F ++ O) h3 h4 h5 (Ows.of_grown (World.grownBy.mk rfl rfl rfl (Nat.le_refl _) (fun _ _ _ => rfl) : W.grownBy W none) (fun k hk => by cases hk)) h2 h1)
  clear h1 h2 h3 h4 h5 uo
  go_enter Try.func41, Try.ntmps41
  go_wp2_with (at_builtin; refine wpList_append_qu rfl _ _ 22 rfl s 23 i0 Try.underlying22 hi hz0 hz1 hz2 _ F rfl Q0.out _ O rfl UO.out (by omega) hs ?_; intro v3 w3 q3 g3 n3; obtain ⟨ao3, cap3, rfl, -⟩ := q3.form; simp only [List.length_append] at q3 n3; obtain ⟨r1, r2, r3⟩ := HN.out w3 _ q3 g3 n3 (by decide); have c3 := r1.cell; have f3 := r1.frozen; have R2 := hidq r2; have R3 := hidq r3; clear q3 g3 n3 r1 r2 r3)
  go_end0
  exact ⟨rfl, _, R2.out, R3.out, fun k hk => hk.imp id fun h => h.1⟩
end Go.Proofs.Ythmiieiajfghnaa
