/-
  The iterator over the spans between the leaves of a set: all of them, in order. Conditions: the slice holds a rising list, none above the last.
-/
import Derived.Test.YtjaikcnfepbpgaaZG1
import Derived.RangeFuncNested
import Derived.RangeFuncBox
import Derived.RangeFuncLeaves
import Derived.Shelf.Abstract
import Derived.WalkKit
import Derived.OwnWalkIn
import Derived.TacticsInMore
import Derived.LoopNIn
import Derived.LoopIn
namespace Go.Proofs.Ytjaikcnfepbpgaa
open Go.RowKit Go.Shelf
attribute [local go_sem] Oper.semAt_some
/-- a span as the program hands it on -/
abbrev spanV (x : Int × Int) : Value := .agg #[.int .u64 x.1, .int .u64 x.2]
/-- what a round keeps: what lay below n₀, and the box of the last leaf -/
def Kps (n₀ Br : Nat) (A B : World) : Prop := Below n₀ A B ∧ ∀ v, Boxed A Br 28 v → Boxed B Br 28 v
theorem Kps.trans {n₀ Br : Nat} {A B C : World} (h1 : Kps n₀ Br A B) (h2 : Kps n₀ Br B C) : Kps n₀ Br A C := ⟨h1.1.trans h2.1, fun v h => h2.2 v (h1.2 v h)⟩
theorem Kps.refl (n₀ Br : Nat) (A : World) : Kps n₀ Br A A := ⟨Below.refl _ _, fun _ h => h⟩
set_option maxRecDepth 100000 in
set_option maxHeartbeats 2000000 in
theorem between1_in (F : Fence) (n : Nat) (hF : F.fn 71) (hro : F.round = none) (hn : 1 ≤ n) (l Bl Br n₀ N : Nat) (L : List Int) (last : Int) (v : Value) (J Jx : List (Int × Int) → World → Prop)
    (hN : (M.gapsL 0 last L).length = N) (hrise : M.rise 0 last L = true) (hl0 : 0 ≤ last) (hl1 : last ≤ 4294967295) (hlen : L.length ≤ 1024)
    (hY : ∀ pre x W, J pre W → pre.length < N → YieldAt F (n - 1) Try.prog l #[spanV x] W fun e W' =>
      (e = .returned (.bool true) ∧ J (pre ++ [x]) W' ∧ Kps n₀ Br W W') ∨ (e = .returned (.bool false) ∧ Jx (pre ++ [x]) W'))
    (W w : World) (hu : Us w v L) (hw : n₀ = w.heap.size) (hbw : Below n₀ w W) (hBl : W.cell? ⟨Bl, 0, none⟩ = some v) (hBr : Boxed W Br 28 (.int .u64 last)) (h0 : J [] W) :
    CallsIn F n Try.prog 71 #[.func (.yield l) #[] #[], .pointer (some ⟨Bl, 0, none⟩), .pointer (some ⟨Br, 0, none⟩)] W fun e W' => (∃ v, e = .returned v) ∧
      ((∃ ys, ys = M.gapsL 0 last L ∧ J ys W') ∨ (∃ pre, pre <+: M.gapsL 0 last L ∧ Jx pre W')) := by
  obtain ⟨hsrt, hbd⟩ := M.rise_of hrise
  obtain ⟨ao, cap, rfl, hq1, hq2, hq3, hq4⟩ := hu
  have HB : Hid (∀ k, k < L.length → 0 ≤ L[k]?.getD 0 ∧ L[k]?.getD 0 ≤ last) := fun k hk => getD_mem hbd k hk
  have HD : Hid (∀ k, k < L.length → L.drop k = L[k]?.getD 0 :: L.drop (k + 1)) := fun k hk => drop_getD k hk
  have HY := hid hY
  generalize hm : L.length = m at *
  have Hm := hid hm
  clear hq3 hm hsrt hbd hrise hY
  refine callsIn_of_wp Try.func71 rfl hF ?_ hro
  simp only [Try.ntmps71, List.size_toArray, List.length_cons, List.length_nil, Nat.reduceAdd, Nat.reduceSub, Array.replicate_succ, Array.replicate_zero, List.push_toArray, List.append_toArray, List.nil_append, List.cons_append]
  gi_wp2
  gi_loopw [9, 4] (fun i t wr => ∃ (k : Nat) (least : Int) (pre : List (Int × Int)), k ≤ m ∧ i = .int .i64 k ∧ t = .int .u64 least ∧ 0 ≤ least ∧ least ≤ 4294967296 ∧ M.gapsL 0 last L = pre ++ M.gapsL least last (L.drop k) ∧ J pre wr ∧ Kps n₀ Br W wr) (fun i _ _ => m - (intOf i).toNat)
  case atStart => exact ⟨0, 0, [], by omega, rfl, rfl, by omega, by omega, by rw [List.drop_zero]; rfl, h0, Kps.refl _ _ _⟩
  case round =>
    obtain ⟨k, least, pre, hk, rfl, rfl, hx0, hx1, hG, hJ, hK⟩ := hrel
    by_cases hlt : k < m
    · obtain ⟨b, off, rfl, hbl, hc⟩ := hq4 (by omega)
      have hcell : wr.cell? ⟨b, off + k, none⟩ = some (.int .u64 (L[k]?.getD 0)) := by
        rw [hK.1.cell (p := ⟨b, off + k, none⟩) (by show b < n₀; omega), hbw.cell (p := ⟨b, off + k, none⟩) (by show b < n₀; omega)]; exact hc k hlt
      obtain ⟨y0, y1⟩ := HB.out k hlt
      rw [HD.out k hlt] at hG
      clear hc hq4 HB HD
      generalize L[k]?.getD 0 = y at *
      by_cases c1 : least < y
      · have HX : Hid (M.gapsL 0 last L = (pre ++ [(least, y - 1)]) ++ M.gapsL (y + 1) last (L.drop (k + 1))) := by
          show _ = _; rw [hG, M.gapsL, if_pos c1]; simp
        have hpl : pre.length < N := by rw [← hN, HX.out]; simp
        obtain ⟨fn, tmps, assign, body, hy, hR⟩ := HY.out pre (least, y - 1) wr hJ hpl
        clear hG HY
        gi_wp2
        refine hR.mono ?_
        rintro e W3 (⟨rfl, hJ3, hk3⟩ | ⟨rfl, hJx3⟩)
        · gi_wp2
          go_roundw
          case rel => exact ⟨k + 1, y + 1, pre ++ [(least, y - 1)], by omega, by go_num, by go_num, by omega, by omega, HX.out, hJ3, hK.trans hk3⟩
          case measure => simp [intOf]; omega
        · gi_wp2
          refine bodyPost_ret (results_none rfl _ _ _) rfl ?_
          exact ⟨⟨_, rfl⟩, .inr ⟨_, ⟨_, HX.out.symm⟩, hJx3⟩⟩
      · have HX : Hid (M.gapsL 0 last L = pre ++ M.gapsL (y + 1) last (L.drop (k + 1))) := by
          show _ = _; rw [hG, M.gapsL, if_neg c1]; rfl
        clear hG HY
        have g1 : decide (least < y) = false := by simpa using c1
        gi_wp2
        refine ⟨fun _ h => (by cases h), ?_⟩
        gi_wp2
        go_roundw
        case rel => exact ⟨k + 1, y + 1, pre, by omega, by go_num, by go_num, by omega, by omega, HX.out, hJ, hK⟩
        case measure => simp [intOf]; omega
    · obtain rfl : k = m := by omega
      rw [← Hm.out, List.drop_length] at hG
      have hcl := (hK.2 _ hBr).cell
      clear HB HD hq4
      by_cases c1 : least ≤ last
      · have HX : Hid (M.gapsL 0 last L = pre ++ [(least, last)]) := by
          show _ = _; rw [hG, M.gapsL, if_pos c1]
        have hpl : pre.length < N := by rw [← hN, HX.out]; simp
        obtain ⟨fn, tmps, assign, body, hy, hR⟩ := HY.out pre (least, last) wr hJ hpl
        clear hG HY
        gi_wp2
        refine hR.mono ?_
        rintro e W3 (⟨rfl, hJ3, hk3⟩ | ⟨rfl, hJx3⟩)
        · gi_wp2
          go_end0
          exact ⟨⟨_, rfl⟩, .inl ⟨_, HX.out.symm, hJ3⟩⟩
        · gi_wp2
          go_end0
          exact ⟨⟨_, rfl⟩, .inr ⟨_, ⟨[], by rw [HX.out]; simp⟩, hJx3⟩⟩
      · have HX : Hid (M.gapsL 0 last L = pre) := by
          show _ = _; rw [hG, M.gapsL, if_neg c1]; simp
        clear hG HY
        gi_wp2
        go_end0
        exact ⟨⟨_, rfl⟩, .inl (by first | exact ⟨_, HX.out.symm, hJ⟩ | (rw [HX.out]; exact hJ))⟩
set_option maxRecDepth 100000 in
set_option maxHeartbeats 1000000 in
/-- between(l, last): both are boxed; the function value captures the boxes -/
theorem between_in (F : Fence) (n : Nat) (hF : F.fn 39) (hro : F.round = none) (ao : Option Addr) (len cap : Nat) (last : Int) (w : World) :
    CallsIn F n Try.prog 39 #[.slice ao len cap, .int .u64 last] w fun e w' => e = .returned (.func (.func 71) #[] #[.pointer (some ⟨w.heap.size, 0, none⟩), .pointer (some ⟨w.heap.size + 1, 0, none⟩)]) ∧ w' = (w.alloc (.cells #[.slice ao len cap] 22)).alloc (.cells #[.int .u64 last] 28) := by
  refine callsIn_of_wp Try.func39 rfl hF ?_ hro
  simp only [Try.ntmps39, List.size_toArray, List.length_cons, List.length_nil, Nat.reduceAdd, Nat.reduceSub, Array.replicate_succ, Array.replicate_zero, List.push_toArray, List.append_toArray, List.nil_append, List.cons_append]
  gi_wp2
  go_ret
  exact ⟨rfl, rfl⟩
set_option maxRecDepth 100000 in
theorem between_stops (F : Fence) (n : Nat) (hF : F.fn 71) (hro : F.round = none) (hn : 1 ≤ n) (Bl Br : Nat) (L : List Int) (last : Int) (v : Value)
    (hrise : M.rise 0 last L = true) (hl0 : 0 ≤ last) (hl1 : last ≤ 4294967295) (hlen : L.length ≤ 1024) (w w0 : World) (hu : Us w0 v L) (hb : Below w0.heap.size w0 w) (hBl : Boxed w Bl 22 v) (hBr : Boxed w Br 28 (.int .u64 last)) :
    SeqStopsK F n Try.prog 71 #[.pointer (some ⟨Bl, 0, none⟩), .pointer (some ⟨Br, 0, none⟩)] (fun x : Int × Int => #[spanV x]) (Kps w0.heap.size Br) (fun ys => ys = M.gapsL 0 last L) (fun pre => pre <+: M.gapsL 0 last L) (M.gapsL 0 last L).length w := fun l J Jx W hW _ _ hY h0 =>
  between1_in F n hF hro hn l Bl Br w0.heap.size _ L last v J Jx rfl hrise hl0 hl1 hlen hY W w0 hu rfl (hb.trans (hW.mono hb.size)) ((hW.cell (p := ⟨Bl, 0, none⟩) hBl.lt).trans hBl.cell) ((hW.block Br hBr.lt).trans hBr) h0
end Go.Proofs.Ytjaikcnfepbpgaa
namespace Go.Proofs.Ytjaikcnfepbpgaa
open Go.RowKit Go.Shelf
attribute [local go_sem] Oper.semAt_some
set_option maxRecDepth 100000 in
theorem Try.infoSpan : (Try.prog.info? 50).map (fun i => (i.zero, i.size, i.bytes)) = some (some (.agg #[.int .u64 0, .int .u64 0]), 2, 16) := by kernel_rfl
/-- the cells of a list of spans -/
def spanC : List (Int × Int) → List Value
  | [] => []
  | s :: t => .int .u64 s.1 :: .int .u64 s.2 :: spanC t
theorem spanC_append : ∀ (A B : List (Int × Int)), spanC (A ++ B) = spanC A ++ spanC B
  | [], _ => rfl
  | s :: t, B => by simp [spanC, spanC_append t B]
theorem spanC_length : ∀ (A : List (Int × Int)), (spanC A).length = A.length * 2
  | [] => rfl
  | s :: t => by simp [spanC, spanC_length t]; omega
/-- a block of two cells -/
def Boxed2 (W : World) (B : Nat) (t : TypeId) (u v : Value) : Prop := W.heap[B]? = some (.cells #[u, v] t (0, 0))
theorem Boxed2.lt {W : World} {B : Nat} {t : TypeId} {u v : Value} (h : Boxed2 W B t u v) : B < W.heap.size := (Array.getElem?_eq_some_iff.1 h).1
theorem Boxed2.cell {W : World} {B : Nat} {t : TypeId} {u v : Value} (h : Boxed2 W B t u v) : W.cell? ⟨B, 0, none⟩ = some u ∧ W.cell? ⟨B, 1, none⟩ = some v := by
  constructor <;> simp [World.cell?, show W.heap[B]? = _ from h]
theorem Boxed2.new (W : World) (t : TypeId) (u v : Value) : Boxed2 (W.alloc (.cells #[u, v] t)) W.heap.size t u v := World.alloc_heap_new W _
theorem Boxed2.kept {W W' : World} {row : Option Nat} {B : Nat} {t : TypeId} {u v : Value} (h : Boxed2 W B t u v) (hg : W.grownBy W' row) (hne : some B ≠ row) : Boxed2 W' B t u v := (hg.block B h.lt hne).trans h
theorem cell_two_new (W : World) (u v : Value) (t : TypeId) : ∀ j x, [u, v][j]? = some x → (W.alloc (.cells #[u, v] t)).cell? ((⟨W.heap.size, 0, none⟩ : Addr).add j) = some x := by
  intro j x hj
  rw [Addr.add_lit, Nat.zero_add, cell_at]
  simpa using hj
theorem gaps_length_le : ∀ (L : List Int) (least last : Int), (M.gapsL least last L).length ≤ L.length + 1
  | [], least, last => by unfold M.gapsL; split <;> simp
  | i :: t, least, last => by
    have := gaps_length_le t (i + 1) last
    unfold M.gapsL
    split <;> simp <;> omega
set_option maxRecDepth 100000 in
set_option maxHeartbeats 2000000 in
theorem gaps_yes (h : Int) (L : List Int) (v : Value) (w : World) (hu : Us w v L) (hs : M.setB h L = true) :
    Calls Try.prog 20 #[.int .i64 h, v] w fun e w' => ∃ v', e = .returned (.tuple #[v', .int .i64 0]) ∧ w'.ownsRow w.heap.size 50 2 v' (M.gapsL 0 (M.p2 h - 1) L).length (spanC (M.gapsL 0 (M.p2 h - 1) L)) ∧ Below w.heap.size w w' := by
  have e1 := M.setE_yes hs
  have e2 : M.setLast h L = M.p2 h - 1 := by unfold M.setLast; rw [hs]; rfl
  obtain ⟨hh1, hh2, hlen, hrise, _, _⟩ := M.set_of hs
  have hp1 := M.p2_pos h
  have hp2 := M.p2_32 hh2
  have hgl := gaps_length_le L 0 (M.p2 h - 1)
  obtain ⟨i0, hi, hz0, hz1, hz2⟩ := info_parts Try.infoSpan
  have hu0 := hu
  obtain ⟨ao, cap, rfl, hq1, hq2, hq3, hq4⟩ := hu0
  have l0 : 0 ≤ M.p2 h - 1 := by omega
  have l1 : M.p2 h - 1 ≤ 4294967295 := by omega
  generalize M.p2 h - 1 = last at *
  generalize hm : L.length = m at *
  clear hq3 hq4 hs hp1 hp2
  refine (callsIn_wide (n := 6)).1 ?_
  refine callsIn_of_wp_marks Try.func20 rfl trivial ?_ rfl
  simp only [Try.ntmps20, List.size_toArray, List.length_cons, List.length_nil, Nat.reduceAdd, Nat.reduceSub, Array.replicate_succ, Array.replicate_zero, List.push_toArray, List.append_toArray, List.nil_append, List.cons_append]
  gi_wp2_with (first | (refine ⟨trivial, ?_⟩; gi_at_call 38; refine (callsIn_wide.2 (checkSet_any _ L _ _ hu)).mono ?_; rintro e w1 ⟨rfl, hb1⟩) | (refine ⟨trivial, ?_⟩; gi_at_call 39; refine (between_in Fence.wide _ trivial rfl _ _ _ _ _).mono ?_; rintro e w' ⟨rfl, rfl⟩))
  have bG := ((Boxed.new w1 40 (.slice none 0 0)).alloc (.cells #[.slice ao m cap] 22)).alloc (.cells #[.int .u64 last] 28)
  have bL := (Boxed.new (w1.alloc (.cells #[.slice none 0 0] 40)) 22 (.slice ao m cap)).alloc (.cells #[.int .u64 last] 28)
  have bR := Boxed.new ((w1.alloc (.cells #[.slice none 0 0] 40)).alloc (.cells #[.slice ao m cap] 22)) 28 (.int .u64 last)
  simp only [World.size_alloc] at bL bR
  have hB0 : Below w1.heap.size w1 (((w1.alloc (.cells #[.slice none 0 0] 40)).alloc (.cells #[.slice ao m cap] 22)).alloc (.cells #[.int .u64 last] 28)) := (((Below.refl _ w1).alloc (Nat.le_refl _) _).alloc (by simp) _).alloc (by simp; omega) _
  have hsz : (((w1.alloc (.cells #[.slice none 0 0] 40)).alloc (.cells #[.slice ao m cap] 22)).alloc (.cells #[.int .u64 last] 28)).heap.size = w1.heap.size + 3 := by simp
  obtain ⟨W0, hW0⟩ : ∃ W0, ((w1.alloc (.cells #[.slice none 0 0] 40)).alloc (.cells #[.slice ao m cap] 22)).alloc (.cells #[.int .u64 last] 28) = W0 := ⟨_, rfl⟩
  rw [hW0] at bG bL bR hB0 hsz ⊢
  clear hW0
  refine wpIn_rangeFunc_ownH rfl (by omega) (gf := 71) (lb := #[.pointer (some ⟨w1.heap.size + 1, 0, none⟩), .pointer (some ⟨w1.heap.size + 1 + 1, 0, none⟩)]) rfl trivial (enters_of Try.func71 (by kernel_rfl) rfl)
    (between_stops Fence.wide _ trivial rfl (by omega) (w1.heap.size + 1) (w1.heap.size + 1 + 1) L last _ hrise l0 l1 (by omega) W0 w1 (hu.below hb1) hB0 bL bR) Kps.trans ?hKb (Below.refl _ _) (fun _ => rfl)
    (fun pre W => (∃ v, Boxed W w1.heap.size 40 v ∧ W.ownsRow w1.heap.size 50 2 v pre.length (spanC pre) ∧ True) ∧ (Boxed W (w1.heap.size + 1 + 1) 28 (.int .u64 last) ∧ Below w1.heap.size w1 W))
    (fun _ _ _ => False)
    (OwnFrom.and (Own.from (holdsRow_own w1.heap.size w1.heap.size 40 50 2 (fun pre => pre.length) (fun pre => spanC pre) (fun _ _ => True)) _) (OwnFrom.and (Own.from (boxed_own _ _ _) _) (ownFrom_below (Nat.le_refl _) (by omega))))
    (fun _ _ _ _ _ hs _ _ => hs)
    ⟨⟨_, bG, World.ownsRow_nil _ _ _ _, trivial⟩, bR, hB0⟩
    (fun x a' W => ∃ Bx, w1.heap.size + 1 + 1 < Bx ∧ Boxed2 W Bx 50 (.int .u64 x.1) (.int .u64 x.2) ∧ a' = { tmps := #[.int .i64 h, .slice ao m cap, undef, undef, .slice none 0 0, .int .i64 0, .int .u64 last, .int .i64 0, .pointer (some ⟨w1.heap.size, 0, none⟩), .pointer (some ⟨Bx, 0, none⟩), .tuple #[.int .u64 last, .int .i64 0], .int .i64 h, .slice ao m cap, .tuple #[.int .u64 last, .int .i64 0], .int .u64 last, .int .i64 0, .int .i64 0, .bool false, undef, .slice ao m cap, .int .u64 last, .func (.func 71) #[] #[.pointer (some ⟨w1.heap.size + 1, 0, none⟩), .pointer (some ⟨w1.heap.size + 1 + 1, 0, none⟩)], spanV x, undef, undef, undef, undef, undef], defers := [] })
    (fun x a' _ X Y row hs hg hr => by
      obtain ⟨Bx, h1, h2, h3⟩ := hs
      refine ⟨Bx, h1, h2.kept hg (fun e => ?_), h3⟩
      obtain ⟨_, o, ho, hc⟩ := hr Bx e.symm
      rw [show X.heap[Bx]? = _ from h2] at ho; cases ho; cases hc)
    ?assign ?body ?done ?stop
  case hKb =>
    intro W l o o' hl ho hc _
    refine ⟨(belowK_b (w := W0) (n₀ := w1.heap.size) (by omega) W l o o' hl ho hc (by assumption)), fun v hv => hv.kept (grownBy_putObj' W l o') ?_⟩
    intro e
    obtain rfl : w1.heap.size + 1 + 1 = l := by simpa using e
    rw [show W.heap[w1.heap.size + 1 + 1]? = _ from hv] at ho; cases ho; cases hc
  case assign =>
    rintro l pre x W K ⟨⟨v, hv, hrow, _⟩, hR, hB⟩ hK
    gi_wp2
    exact hK _ _ ((KeepsOthers.alloc _ _).from _) ⟨(Below.refl _ W).alloc hB.size _, fun _ hh => hh.alloc _⟩ ⟨⟨v, hv.alloc _, hrow.alloc _, trivial⟩, hR.alloc _, hB.alloc hB.size _⟩ ⟨W.heap.size, hR.lt, Boxed2.new W _ _ _, rfl⟩
  case body =>
    rintro l pre x a' W hl _ ⟨⟨v, hv, hrow, _⟩, hR, hB⟩ ⟨Bx, hBx, bX, rfl⟩ hlt
    have hc := hv.cell
    obtain ⟨hx1, hx2⟩ := bX.cell
    have hpl : pre.length ≤ 2000 := by omega
    gi_wp2_with (gi_at_builtin; refine wpListIn_append_own _ rfl _ _ 40 rfl w1.heap.size 50 i0 _ 2 16 Try.underlying40 hi hz0 hz1 hz2 rfl (by decide) _ _ _ rfl (hrow.alloc _) ⟨W.heap.size, 0, none⟩ 1 1 [.int .u64 x.1, .int .u64 x.2] rfl rfl (cell_two_new _ _ _ _) (by simp [Value.oneCell']) (by unfold maxLen; omega) (by omega) (by have := hB.size; simp; omega) ?_; intro v' w2 hown' hgrow _; obtain ⟨g', cap', rfl⟩ := ownsRow_succ hown'; obtain ⟨hv1, hv2, hr2, hk2, hb2⟩ := hv.appended (by decide) hrow hB.size (Nat.le_refl _) hown' hgrow; have hc1 := hv1.cell; have hf1 := hv1.frozen)
    have hR2 : ∀ u, Boxed W (w1.heap.size + 1 + 1) 28 u → Boxed (w2.setCell ⟨w1.heap.size, 0, none⟩ (.slice (some ⟨g', 0, none⟩) (pre.length + 1) cap')) (w1.heap.size + 1 + 1) 28 u := fun u hu =>
      ((hu.alloc _).kept hgrow (hu.not_row (by decide) hrow)).other (by omega) _
    exact ⟨hk2.from _, ⟨hb2, hR2⟩, ⟨_, hv2, by rw [spanC_append, List.length_append]; exact hr2, trivial⟩, hR2 _ hR, hB.trans hb2⟩
  case done =>
    rintro D ys W hD rfl ⟨⟨v, hv, hrow, _⟩, hR, hB⟩ hK
    have hc := hv.cell
    gi_wp2
    refine ⟨by simp, .inl ⟨_, _, rfl, run_takeDeferred hK, ?_⟩⟩
    exact ⟨_, results_tmp2 rfl _ _ _, v, rfl, own_lower (ownsRow_putObj hrow _ hK rfl) hb1.size, (hb1.trans (hB.mono hb1.size)).trans (belowK_b (w := w) (Nat.le_refl _) W D _ _ (by have := hb1.size; omega) hK rfl rfl)⟩
  case stop =>
    rintro D c pre W _ _ h _
    exact h.elim
set_option maxRecDepth 100000 in
set_option maxHeartbeats 400000 in
theorem gaps_no (h : Int) (L : List Int) (v : Value) (w : World) (hu : Us w v L) (hs : M.setB h L = false) :
    Calls Try.prog 20 #[.int .i64 h, v] w fun e w' => e = .returned (.tuple #[.slice none 0 0, .int .i64 1]) ∧ Below w.heap.size w w' := by
  have e1 := M.setE_no hs
  go_enter Try.func20, Try.ntmps20
  go_wp2_with (first | (go_at_call 38; refine (checkSet_any _ L _ _ hu).mono ?_; rintro e w1 ⟨rfl, hb1⟩))
  go_ret2
  exact ⟨rfl, hb1⟩
end Go.Proofs.Ytjaikcnfepbpgaa
namespace Go.Proofs.Ytjaikcnfepbpgaa
open Go.RowKit
/-- the slice value v holds the spans S -/
def Ps (W : World) (v : Value) (S : List (Int × Int)) : Prop :=
  ∃ ao cap, v = .slice ao S.length cap ∧ S.length ≤ cap ∧ cap ≤ maxLen ∧ (∀ x ∈ S, 0 ≤ x.1 ∧ x.1 ≤ 18446744073709551615 ∧ 0 ≤ x.2 ∧ x.2 ≤ 18446744073709551615) ∧
    (0 < cap → ∃ b off, ao = some ⟨b, off, none⟩ ∧ b < W.heap.size ∧ ∀ j, j < S.length → W.cell? ⟨b, off + j * 2, none⟩ = some (.int .u64 (S[j]?.getD (0, 0)).1) ∧ W.cell? ⟨b, off + j * 2 + 1, none⟩ = some (.int .u64 (S[j]?.getD (0, 0)).2))
theorem Ps.below {W W' : World} {v : Value} {S : List (Int × Int)} (h : Ps W v S) (hb : Below W.heap.size W W') : Ps W' v S := by
  obtain ⟨ao, cap, h1, h2, h3, h4, h5⟩ := h
  refine ⟨ao, cap, h1, h2, h3, h4, fun h0 => ?_⟩
  obtain ⟨b, off, h6, h7, h8⟩ := h5 h0
  exact ⟨b, off, h6, Nat.lt_of_lt_of_le h7 hb.size, fun j hj => ⟨(hb.cell (p := ⟨b, off + j * 2, none⟩) h7).trans (h8 j hj).1, (hb.cell (p := ⟨b, off + j * 2 + 1, none⟩) h7).trans (h8 j hj).2⟩⟩
theorem Ps.alloc {W : World} {v : Value} {S : List (Int × Int)} (h : Ps W v S) (o : Obj) : Ps (W.alloc o) v S := h.below ((Below.refl _ _).alloc (Nat.le_refl _) o)
theorem Ps.drew {W : World} {v : Value} {S : List (Int × Int)} (h : Ps W v S) : Ps W.drew v S := h.below (Below.refl _ _).drew
theorem spanC_get : ∀ (S : List (Int × Int)) (j : Nat), j < S.length → (spanC S)[j * 2]? = some (.int .u64 (S[j]?.getD (0, 0)).1) ∧ (spanC S)[j * 2 + 1]? = some (.int .u64 (S[j]?.getD (0, 0)).2)
  | [], j, h => by simp at h
  | s :: t, 0, _ => by simp [spanC]
  | s :: t, j + 1, h => by
    have := spanC_get t j (by simpa using h)
    rw [show (j + 1) * 2 = j * 2 + 1 + 1 by omega]
    simpa [spanC] using this
theorem Ps.of_own {W : World} {base : Nat} {e : TypeId} {v : Value} {n : Nat} {S : List (Int × Int)} (h : W.ownsRow base e 2 v n (spanC S)) (hb : ∀ x ∈ S, 0 ≤ x.1 ∧ x.1 ≤ 18446744073709551615 ∧ 0 ≤ x.2 ∧ x.2 ≤ 18446744073709551615) : Ps W v S := by
  have hn : S.length = n := by have := h.1; rw [spanC_length] at this; omega
  rcases h.2 with ⟨h1, h2⟩ | ⟨g, cap, cur, h1, h2, h3, h4, h5, h6, h7⟩
  · exact ⟨none, 0, by rw [h1, hn, h2], by omega, by simp [maxLen], hb, fun h0 => by omega⟩
  · refine ⟨some ⟨g, 0, none⟩, cap, by rw [h1, hn], by omega, h5, hb, fun h0 => ⟨g, 0, rfl, (Array.getElem?_eq_some_iff.1 h3).1, fun j hj => ?_⟩⟩
    subst h1
    have hc := h.cells (g := g) rfl
    obtain ⟨g1, g2⟩ := spanC_get S j hj
    have c1 := hc _ _ g1
    have c2 := hc _ _ g2
    rw [Addr.add_lit] at c1 c2
    exact ⟨c1, by rw [Nat.add_assoc]; exact c2⟩
theorem M.live_set : M.setB 2 [1] = true := by decide +kernel
theorem M.live_gaps : M.gapsL 0 (M.p2 2 - 1) [1] = [(0, 0), (2, 3)] := by decide +kernel
theorem Ps.lit (W : World) (e : TypeId) : Ps (W.alloc (.cells #[.int .u64 0, .int .u64 0, .int .u64 2, .int .u64 3] e)) (.slice (some ⟨W.heap.size, 0, none⟩) 2 2) [(0, 0), (2, 3)] := by
  refine ⟨_, _, rfl, by simp, by unfold maxLen; omega, by simp, fun _ => ⟨W.heap.size, 0, rfl, by simp, fun j hj => ?_⟩⟩
  rw [cell_at, cell_at]
  match j, hj with
  | 0, _ => exact ⟨rfl, rfl⟩
  | 1, _ => exact ⟨rfl, rfl⟩
end Go.Proofs.Ytjaikcnfepbpgaa
