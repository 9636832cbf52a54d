/-
  What leaf.Gaps answers at every input. Conditions: the slice holds numbers that fit.
-/
import Derived.Test.YtbgfbhfjlphpkaaH1
namespace Go.Proofs.Ytbgfbhfjlphpkaa
open Go.RowKit Go.Shelf
attribute [local go_sem] Oper.semAt_some
theorem Try.infoSpan : (Try.prog.info? 41).map (fun i => (i.zero, i.size, i.bytes)) = some (some (.agg #[.int .u64 0, .int .u64 0]), 2, 16) := by kernel_rfl
/-- the cells of a list of spans -/
def spanC : List (Int × Int) → List Value
  | [] => []
  | s :: t => .int .u64 s.1 :: .int .u64 s.2 :: spanC t
theorem spanC_append : ∀ (A B : List (Int × Int)), spanC (A ++ B) = spanC A ++ spanC B
  | [], _ => rfl
  | s :: t, B => by simp [spanC, spanC_append t B]
theorem spanC_length : ∀ (A : List (Int × Int)), (spanC A).length = A.length * 2
  | [] => rfl
  | s :: t => by simp [spanC, spanC_length t]; omega
/-- a block of two cells -/
def Boxed2 (W : World) (B : Nat) (t : TypeId) (u v : Value) : Prop := W.heap[B]? = some (.cells #[u, v] t (0, 0))
theorem Boxed2.lt {W : World} {B : Nat} {t : TypeId} {u v : Value} (h : Boxed2 W B t u v) : B < W.heap.size := (Array.getElem?_eq_some_iff.1 h).1
theorem Boxed2.cell {W : World} {B : Nat} {t : TypeId} {u v : Value} (h : Boxed2 W B t u v) : W.cell? ⟨B, 0, none⟩ = some u ∧ W.cell? ⟨B, 1, none⟩ = some v := by
  constructor <;> simp [World.cell?, show W.heap[B]? = _ from h]
theorem Boxed2.new (W : World) (t : TypeId) (u v : Value) : Boxed2 (W.alloc (.cells #[u, v] t)) W.heap.size t u v := World.alloc_heap_new W _
theorem Boxed2.kept {W W' : World} {row : Option Nat} {B : Nat} {t : TypeId} {u v : Value} (h : Boxed2 W B t u v) (hg : W.grownBy W' row) (hne : some B ≠ row) : Boxed2 W' B t u v := (hg.block B h.lt hne).trans h
theorem cell_two_new (W : World) (u v : Value) (t : TypeId) : ∀ j x, [u, v][j]? = some x → (W.alloc (.cells #[u, v] t)).cell? ((⟨W.heap.size, 0, none⟩ : Addr).add j) = some x := by
  intro j x hj
  rw [Addr.add_lit, Nat.zero_add, cell_at]
  simpa using hj
theorem gaps_length_le : ∀ (L : List Int) (least last : Int), (M.gapsL least last L).length ≤ L.length + 1
  | [], least, last => by unfold M.gapsL; split <;> simp
  | i :: t, least, last => by
    have := gaps_length_le t (i + 1) last
    unfold M.gapsL
    split <;> simp <;> omega
set_option maxRecDepth 100000 in
set_option maxHeartbeats 2000000 in
theorem gaps_yes (h : Int) (L : List Int) (v : Value) (w : World) (hu : Us w v L) (hs : M.setB h L = true) :
    Calls Try.prog 21 #[.int .i64 h, v] w fun e w' => ∃ v', e = .returned (.tuple #[v', .int .i64 0]) ∧ w'.ownsRow w.heap.size 41 2 v' (M.gapsL 0 (M.p2 h - 1) L).length (spanC (M.gapsL 0 (M.p2 h - 1) L)) ∧ Below w.heap.size w w' := by
  have e1 := M.setE_yes hs
  have e2 : M.setLast h L = M.p2 h - 1 := by unfold M.setLast; rw [hs]; rfl
  obtain ⟨hh1, hh2, hlen, hrise, _, _⟩ := M.set_of hs
  have hp1 := M.p2_pos h
  have hp2 := M.p2_32 hh2
  have hgl := gaps_length_le L 0 (M.p2 h - 1)
  obtain ⟨i0, hi, hz0, hz1, hz2⟩ := info_parts Try.infoSpan
  have hu0 := hu
  obtain ⟨ao, cap, rfl, hq1, hq2, hq3, hq4⟩ := hu0
  have l0 : 0 ≤ M.p2 h - 1 := by omega
  have l1 : M.p2 h - 1 ≤ 4294967295 := by omega
  generalize M.p2 h - 1 = last at *
  generalize hm : L.length = m at *
  clear hq3 hq4 hs hp1 hp2
  refine (callsIn_wide (n := 6)).1 ?_
  refine callsIn_of_wp_marks Try.func21 rfl trivial ?_ rfl
  simp only [Try.ntmps21, List.size_toArray, List.length_cons, List.length_nil, Nat.reduceAdd, Nat.reduceSub, Array.replicate_succ, Array.replicate_zero, List.push_toArray, List.append_toArray, List.nil_append, List.cons_append]
  gi_wp2_with (first | (refine ⟨trivial, ?_⟩; gi_at_call 32; refine (callsIn_wide.2 (checkSet_any _ L _ _ hu)).mono ?_; rintro e w1 ⟨rfl, hb1⟩) | (refine ⟨trivial, ?_⟩; gi_at_call 36; refine (between_in Fence.wide _ trivial rfl _ _ _ _ _).mono ?_; rintro e w' ⟨rfl, rfl⟩))
  have bG := ((Boxed.new w1 33 (.slice none 0 0)).alloc (.cells #[.slice ao m cap] 22)).alloc (.cells #[.int .u64 last] 23)
  have bL := (Boxed.new (w1.alloc (.cells #[.slice none 0 0] 33)) 22 (.slice ao m cap)).alloc (.cells #[.int .u64 last] 23)
  have bR := Boxed.new ((w1.alloc (.cells #[.slice none 0 0] 33)).alloc (.cells #[.slice ao m cap] 22)) 23 (.int .u64 last)
  simp only [World.size_alloc] at bL bR
  have hB0 : Below w1.heap.size w1 (((w1.alloc (.cells #[.slice none 0 0] 33)).alloc (.cells #[.slice ao m cap] 22)).alloc (.cells #[.int .u64 last] 23)) := (((Below.refl _ w1).alloc (Nat.le_refl _) _).alloc (by simp) _).alloc (by simp; omega) _
  have hsz : (((w1.alloc (.cells #[.slice none 0 0] 33)).alloc (.cells #[.slice ao m cap] 22)).alloc (.cells #[.int .u64 last] 23)).heap.size = w1.heap.size + 3 := by simp
  obtain ⟨W0, hW0⟩ : ∃ W0, ((w1.alloc (.cells #[.slice none 0 0] 33)).alloc (.cells #[.slice ao m cap] 22)).alloc (.cells #[.int .u64 last] 23) = W0 := ⟨_, rfl⟩
  rw [hW0] at bG bL bR hB0 hsz ⊢
  clear hW0
  refine wpIn_rangeFunc_ownH rfl (by omega) (gf := 50) (lb := #[.pointer (some ⟨w1.heap.size + 1, 0, none⟩), .pointer (some ⟨w1.heap.size + 1 + 1, 0, none⟩)]) rfl trivial (enters_of Try.func50 (by kernel_rfl) rfl)
    (between_stops Fence.wide _ trivial rfl (by omega) (w1.heap.size + 1) (w1.heap.size + 1 + 1) L last _ hrise l0 l1 (by omega) W0 w1 (hu.below hb1) hB0 bL bR) Kps.trans ?hKb (Below.refl _ _) (fun _ => rfl)
    (fun pre W => (∃ v, Boxed W w1.heap.size 33 v ∧ W.ownsRow w1.heap.size 41 2 v pre.length (spanC pre) ∧ True) ∧ (Boxed W (w1.heap.size + 1 + 1) 23 (.int .u64 last) ∧ Below w1.heap.size w1 W))
    (fun _ _ _ => False)
    (OwnFrom.and (Own.from (holdsRow_own w1.heap.size w1.heap.size 33 41 2 (fun pre => pre.length) (fun pre => spanC pre) (fun _ _ => True)) _) (OwnFrom.and (Own.from (boxed_own _ _ _) _) (ownFrom_below (Nat.le_refl _) (by omega))))
    (fun _ _ _ _ _ hs _ _ => hs)
    ⟨⟨_, bG, World.ownsRow_nil _ _ _ _, trivial⟩, bR, hB0⟩
    (fun x a' W => ∃ Bx, w1.heap.size + 1 + 1 < Bx ∧ Boxed2 W Bx 41 (.int .u64 x.1) (.int .u64 x.2) ∧ a' = { tmps := #[.int .i64 h, .slice ao m cap, undef, undef, .slice none 0 0, .int .i64 0, .int .u64 last, .int .i64 0, .pointer (some ⟨w1.heap.size, 0, none⟩), .pointer (some ⟨Bx, 0, none⟩), .tuple #[.int .u64 last, .int .i64 0], .int .i64 h, .slice ao m cap, .tuple #[.int .u64 last, .int .i64 0], .int .u64 last, .int .i64 0, .int .i64 0, .bool false, undef, .slice ao m cap, .int .u64 last, .func (.func 50) #[] #[.pointer (some ⟨w1.heap.size + 1, 0, none⟩), .pointer (some ⟨w1.heap.size + 1 + 1, 0, none⟩)], spanV x, undef, undef, undef, undef, undef], defers := [] })
    (fun x a' _ X Y row hs hg hr => by
      obtain ⟨Bx, h1, h2, h3⟩ := hs
      refine ⟨Bx, h1, h2.kept hg (fun e => ?_), h3⟩
      obtain ⟨_, o, ho, hc⟩ := hr Bx e.symm
      rw [show X.heap[Bx]? = _ from h2] at ho; cases ho; cases hc)
    ?assign ?body ?done ?stop
  case hKb =>
    intro W l o o' hl ho hc _
    refine ⟨(belowK_b (w := W0) (n₀ := w1.heap.size) (by omega) W l o o' hl ho hc (by assumption)), fun v hv => hv.kept (grownBy_putObj' W l o') ?_⟩
    intro e
    obtain rfl : w1.heap.size + 1 + 1 = l := by simpa using e
    rw [show W.heap[w1.heap.size + 1 + 1]? = _ from hv] at ho; cases ho; cases hc
  case assign =>
    rintro l pre x W K ⟨⟨v, hv, hrow, _⟩, hR, hB⟩ hK
    gi_wp2
    exact hK _ _ ((KeepsOthers.alloc _ _).from _) ⟨(Below.refl _ W).alloc hB.size _, fun _ hh => hh.alloc _⟩ ⟨⟨v, hv.alloc _, hrow.alloc _, trivial⟩, hR.alloc _, hB.alloc hB.size _⟩ ⟨W.heap.size, hR.lt, Boxed2.new W _ _ _, rfl⟩
  case body =>
    rintro l pre x a' W hl _ ⟨⟨v, hv, hrow, _⟩, hR, hB⟩ ⟨Bx, hBx, bX, rfl⟩ hlt
    have hc := hv.cell
    obtain ⟨hx1, hx2⟩ := bX.cell
    have hpl : pre.length ≤ 2000 := by omega
    gi_wp2_with (gi_at_builtin; refine wpListIn_append_own _ rfl _ _ 33 rfl w1.heap.size 41 i0 _ 2 16 Try.underlying33 hi hz0 hz1 hz2 rfl (by decide) _ _ _ rfl (hrow.alloc _) ⟨W.heap.size, 0, none⟩ 1 1 [.int .u64 x.1, .int .u64 x.2] rfl rfl (cell_two_new _ _ _ _) (by simp [Value.oneCell']) (by unfold maxLen; omega) (by omega) (by have := hB.size; simp; omega) ?_; intro v' w2 hown' hgrow _; obtain ⟨g', cap', rfl⟩ := ownsRow_succ hown'; obtain ⟨hv1, hv2, hr2, hk2, hb2⟩ := hv.appended (by decide) hrow hB.size (Nat.le_refl _) hown' hgrow; have hc1 := hv1.cell; have hf1 := hv1.frozen)
    have hR2 : ∀ u, Boxed W (w1.heap.size + 1 + 1) 23 u → Boxed (w2.setCell ⟨w1.heap.size, 0, none⟩ (.slice (some ⟨g', 0, none⟩) (pre.length + 1) cap')) (w1.heap.size + 1 + 1) 23 u := fun u hu =>
      ((hu.alloc _).kept hgrow (hu.not_row (by decide) hrow)).other (by omega) _
    exact ⟨hk2.from _, ⟨hb2, hR2⟩, ⟨_, hv2, by rw [spanC_append, List.length_append]; exact hr2, trivial⟩, hR2 _ hR, hB.trans hb2⟩
  case done =>
    rintro D ys W hD rfl ⟨⟨v, hv, hrow, _⟩, hR, hB⟩ hK
    have hc := hv.cell
    gi_wp2
    refine ⟨by simp, .inl ⟨_, _, rfl, run_takeDeferred hK, ?_⟩⟩
    exact ⟨_, results_tmp2 rfl _ _ _, v, rfl, own_lower (ownsRow_putObj hrow _ hK rfl) hb1.size, (hb1.trans (hB.mono hb1.size)).trans (belowK_b (w := w) (Nat.le_refl _) W D _ _ (by have := hb1.size; omega) hK rfl rfl)⟩
  case stop =>
    rintro D c pre W _ _ h _
    exact h.elim
set_option maxHeartbeats 400000 in
theorem gaps_no (h : Int) (L : List Int) (v : Value) (w : World) (hu : Us w v L) (hs : M.setB h L = false) :
    Calls Try.prog 21 #[.int .i64 h, v] w fun e w' => e = .returned (.tuple #[.slice none 0 0, .int .i64 1]) ∧ Below w.heap.size w w' := by
  have e1 := M.setE_no hs
  go_enter Try.func21, Try.ntmps21
  go_wp2_with (first | (go_at_call 32; refine (checkSet_any _ L _ _ hu).mono ?_; rintro e w1 ⟨rfl, hb1⟩))
  go_ret2
  exact ⟨rfl, hb1⟩
end Go.Proofs.Ytbgfbhfjlphpkaa
