/-
  The iterator over the spans between the leaves of a set: all of them, in order. Conditions: the slice holds a rising list, none above the last.
-/
import Derived.Test.YtmicgojojkkkhaaZG1
import Derived.Test.YtmicgojojkkkhaaZLM
import Derived.RangeFuncNested
import Derived.RangeFuncBox
import Derived.RangeFuncLeaves
import Derived.Shelf.Abstract
import Derived.WalkKit
import Derived.OwnWalkIn
import Derived.TacticsInMore
import Derived.LoopNIn
import Derived.LoopIn
import Derived.Deep.RegionLaw
namespace Go.Proofs.Ytmicgojojkkkhaa
open Go.RowKit Go.Shelf
attribute [local go_sem] Oper.semAt_some
/-- a span as the program hands it on -/
abbrev spanV (x : Int × Int) : Value := .agg #[.int .u64 x.1, .int .u64 x.2]
/-- what a round keeps: what lay below n₀, and the box of the last leaf -/
def Kps (n₀ Br : Nat) (A B : World) : Prop := Below n₀ A B ∧ ∀ v, Boxed A Br 25 v → Boxed B Br 25 v
theorem Kps.trans {n₀ Br : Nat} {A B C : World} (h1 : Kps n₀ Br A B) (h2 : Kps n₀ Br B C) : Kps n₀ Br A C := ⟨h1.1.trans h2.1, fun v h => h2.2 v (h1.2 v h)⟩
theorem Kps.refl (n₀ Br : Nat) (A : World) : Kps n₀ Br A A := ⟨Below.refl _ _, fun _ h => h⟩
set_option maxRecDepth 100000 in
set_option maxHeartbeats 2000000 in
theorem between1_in (F : Fence) (n : Nat) (hF : F.fn 64) (hro : F.round = none) (hn : 1 ≤ n) (l Bl Br n₀ N : Nat) (L : List Int) (last : Int) (v : Value) (J Jx : List (Int × Int) → World → Prop)
    (hN : (M.gapsL 0 last L).length = N) (hrise : M.rise 0 last L = true) (hl0 : 0 ≤ last) (hl1 : last ≤ 4294967295) (hlen : L.length ≤ 1024)
    (hY : ∀ pre x W, J pre W → pre.length < N → YieldAt F (n - 1) Try.prog l #[spanV x] W fun e W' =>
      (e = .returned (.bool true) ∧ J (pre ++ [x]) W' ∧ Kps n₀ Br W W') ∨ (e = .returned (.bool false) ∧ Jx (pre ++ [x]) W'))
    (W w : World) (hu : Us w v L) (hw : n₀ = w.heap.size) (hbw : Below n₀ w W) (hBl : W.cell? ⟨Bl, 0, none⟩ = some v) (hBr : Boxed W Br 25 (.int .u64 last)) (h0 : J [] W) :
    CallsIn F n Try.prog 64 #[.func (.yield l) #[] #[], .pointer (some ⟨Bl, 0, none⟩), .pointer (some ⟨Br, 0, none⟩)] W fun e W' => (∃ v, e = .returned v) ∧
      ((∃ ys, ys = M.gapsL 0 last L ∧ J ys W') ∨ (∃ pre, pre <+: M.gapsL 0 last L ∧ Jx pre W')) := by
  obtain ⟨hsrt, hbd⟩ := M.rise_of hrise
  obtain ⟨ao, cap, rfl, hq1, hq2, hq3, hq4⟩ := hu
  have HB : Hid (∀ k, k < L.length → 0 ≤ L[k]?.getD 0 ∧ L[k]?.getD 0 ≤ last) := fun k hk => getD_mem hbd k hk
  have HD : Hid (∀ k, k < L.length → L.drop k = L[k]?.getD 0 :: L.drop (k + 1)) := fun k hk => drop_getD k hk
  have HY := hid hY
  generalize hm : L.length = m at *
  have Hm := hid hm
  clear hq3 hm hsrt hbd hrise hY
  refine callsIn_of_wp Try.func64 rfl hF ?_ hro
  simp only [Try.ntmps64, List.size_toArray, List.length_cons, List.length_nil, Nat.reduceAdd, Nat.reduceSub, Array.replicate_succ, Array.replicate_zero, List.push_toArray, List.append_toArray, List.nil_append, List.cons_append]
  gi_wp2
  gi_loopw [9, 4] (fun i t wr => ∃ (k : Nat) (least : Int) (pre : List (Int × Int)), k ≤ m ∧ i = .int .i64 k ∧ t = .int .u64 least ∧ 0 ≤ least ∧ least ≤ 4294967296 ∧ M.gapsL 0 last L = pre ++ M.gapsL least last (L.drop k) ∧ J pre wr ∧ Kps n₀ Br W wr) (fun i _ _ => m - (intOf i).toNat)
  case atStart => exact ⟨0, 0, [], by omega, rfl, rfl, by omega, by omega, by rw [List.drop_zero]; rfl, h0, Kps.refl _ _ _⟩
  case round =>
    obtain ⟨k, least, pre, hk, rfl, rfl, hx0, hx1, hG, hJ, hK⟩ := hrel
    by_cases hlt : k < m
    · obtain ⟨b, off, rfl, hbl, hc⟩ := hq4 (by omega)
      have hcell : wr.cell? ⟨b, off + k, none⟩ = some (.int .u64 (L[k]?.getD 0)) := by
        rw [hK.1.cell (p := ⟨b, off + k, none⟩) (by show b < n₀; omega), hbw.cell (p := ⟨b, off + k, none⟩) (by show b < n₀; omega)]; exact hc k hlt
      obtain ⟨y0, y1⟩ := HB.out k hlt
      rw [HD.out k hlt] at hG
      clear hc hq4 HB HD
      generalize L[k]?.getD 0 = y at *
      by_cases c1 : least < y
      · have HX : Hid (M.gapsL 0 last L = (pre ++ [(least, y - 1)]) ++ M.gapsL (y + 1) last (L.drop (k + 1))) := by
          show _ = _; rw [hG, M.gapsL, if_pos c1]; simp
        have hpl : pre.length < N := by rw [← hN, HX.out]; simp
        obtain ⟨fn, tmps, assign, body, hy, hR⟩ := HY.out pre (least, y - 1) wr hJ hpl
        clear hG HY
        gi_wp2
        refine hR.mono ?_
        rintro e W3 (⟨rfl, hJ3, hk3⟩ | ⟨rfl, hJx3⟩)
        · gi_wp2
          go_roundw
          case rel => exact ⟨k + 1, y + 1, pre ++ [(least, y - 1)], by omega, by go_num, by go_num, by omega, by omega, HX.out, hJ3, hK.trans hk3⟩
          case measure => simp [intOf]; omega
        · gi_wp2
          refine bodyPost_ret (results_none rfl _ _ _) rfl ?_
          exact ⟨⟨_, rfl⟩, .inr ⟨_, ⟨_, HX.out.symm⟩, hJx3⟩⟩
      · have HX : Hid (M.gapsL 0 last L = pre ++ M.gapsL (y + 1) last (L.drop (k + 1))) := by
          show _ = _; rw [hG, M.gapsL, if_neg c1]; rfl
        clear hG HY
        have g1 : decide (least < y) = false := by simpa using c1
        gi_wp2
        refine ⟨fun _ h => (by cases h), ?_⟩
        gi_wp2
        go_roundw
        case rel => exact ⟨k + 1, y + 1, pre, by omega, by go_num, by go_num, by omega, by omega, HX.out, hJ, hK⟩
        case measure => simp [intOf]; omega
    · obtain rfl : k = m := by omega
      rw [← Hm.out, List.drop_length] at hG
      have hcl := (hK.2 _ hBr).cell
      clear HB HD hq4
      by_cases c1 : least ≤ last
      · have HX : Hid (M.gapsL 0 last L = pre ++ [(least, last)]) := by
          show _ = _; rw [hG, M.gapsL, if_pos c1]
        have hpl : pre.length < N := by rw [← hN, HX.out]; simp
        obtain ⟨fn, tmps, assign, body, hy, hR⟩ := HY.out pre (least, last) wr hJ hpl
        clear hG HY
        gi_wp2
        refine hR.mono ?_
        rintro e W3 (⟨rfl, hJ3, hk3⟩ | ⟨rfl, hJx3⟩)
        · gi_wp2
          go_end0
          exact ⟨⟨_, rfl⟩, .inl ⟨_, HX.out.symm, hJ3⟩⟩
        · gi_wp2
          go_end0
          exact ⟨⟨_, rfl⟩, .inr ⟨_, ⟨[], by rw [HX.out]; simp⟩, hJx3⟩⟩
      · have HX : Hid (M.gapsL 0 last L = pre) := by
          show _ = _; rw [hG, M.gapsL, if_neg c1]; simp
        clear hG HY
        gi_wp2
        go_end0
        exact ⟨⟨_, rfl⟩, .inl (by first | exact ⟨_, HX.out.symm, hJ⟩ | (rw [HX.out]; exact hJ))⟩
set_option maxRecDepth 100000 in
set_option maxHeartbeats 1000000 in
/-- between(l, last): both are boxed; the function value captures the boxes -/
theorem between_in (F : Fence) (n : Nat) (hF : F.fn 38) (hro : F.round = none) (ao : Option Addr) (len cap : Nat) (last : Int) (w : World) :
    CallsIn F n Try.prog 38 #[.slice ao len cap, .int .u64 last] w fun e w' => e = .returned (.func (.func 64) #[] #[.pointer (some ⟨w.heap.size, 0, none⟩), .pointer (some ⟨w.heap.size + 1, 0, none⟩)]) ∧ w' = (w.alloc (.cells #[.slice ao len cap] 31)).alloc (.cells #[.int .u64 last] 25) := by
  refine callsIn_of_wp Try.func38 rfl hF ?_ hro
  simp only [Try.ntmps38, List.size_toArray, List.length_cons, List.length_nil, Nat.reduceAdd, Nat.reduceSub, Array.replicate_succ, Array.replicate_zero, List.push_toArray, List.append_toArray, List.nil_append, List.cons_append]
  gi_wp2
  go_ret
  exact ⟨rfl, rfl⟩
set_option maxRecDepth 100000 in
theorem between_stops (F : Fence) (n : Nat) (hF : F.fn 64) (hro : F.round = none) (hn : 1 ≤ n) (Bl Br : Nat) (L : List Int) (last : Int) (v : Value)
    (hrise : M.rise 0 last L = true) (hl0 : 0 ≤ last) (hl1 : last ≤ 4294967295) (hlen : L.length ≤ 1024) (w w0 : World) (hu : Us w0 v L) (hb : Below w0.heap.size w0 w) (hBl : Boxed w Bl 31 v) (hBr : Boxed w Br 25 (.int .u64 last)) :
    SeqStopsK F n Try.prog 64 #[.pointer (some ⟨Bl, 0, none⟩), .pointer (some ⟨Br, 0, none⟩)] (fun x : Int × Int => #[spanV x]) (Kps w0.heap.size Br) (fun ys => ys = M.gapsL 0 last L) (fun pre => pre <+: M.gapsL 0 last L) (M.gapsL 0 last L).length w := fun l J Jx W hW _ _ hY h0 =>
  between1_in F n hF hro hn l Bl Br w0.heap.size _ L last v J Jx rfl hrise hl0 hl1 hlen hY W w0 hu rfl (hb.trans (hW.mono hb.size)) ((hW.cell (p := ⟨Bl, 0, none⟩) hBl.lt).trans hBl.cell) ((hW.block Br hBr.lt).trans hBr) h0
end Go.Proofs.Ytmicgojojkkkhaa
namespace Go.Proofs.Ytmicgojojkkkhaa
open Go.RowKit Go.Shelf
attribute [local go_sem] Oper.semAt_some
set_option maxRecDepth 100000 in
theorem Try.infoSpan : (Try.prog.info? 49).map (fun i => (i.zero, i.size, i.bytes)) = some (some (.agg #[.int .u64 0, .int .u64 0]), 2, 16) := by kernel_rfl
/-- the cells of a list of spans -/
def spanC : List (Int × Int) → List Value
  | [] => []
  | s :: t => .int .u64 s.1 :: .int .u64 s.2 :: spanC t
theorem spanC_append : ∀ (A B : List (Int × Int)), spanC (A ++ B) = spanC A ++ spanC B
  | [], _ => rfl
  | s :: t, B => by simp [spanC, spanC_append t B]
theorem spanC_length : ∀ (A : List (Int × Int)), (spanC A).length = A.length * 2
  | [] => rfl
  | s :: t => by simp [spanC, spanC_length t]; omega
/-- a block of two cells -/
def Boxed2 (W : World) (B : Nat) (t : TypeId) (u v : Value) : Prop := W.heap[B]? = some (.cells #[u, v] t (0, 0))
theorem Boxed2.lt {W : World} {B : Nat} {t : TypeId} {u v : Value} (h : Boxed2 W B t u v) : B < W.heap.size := (Array.getElem?_eq_some_iff.1 h).1
theorem Boxed2.cell {W : World} {B : Nat} {t : TypeId} {u v : Value} (h : Boxed2 W B t u v) : W.cell? ⟨B, 0, none⟩ = some u ∧ W.cell? ⟨B, 1, none⟩ = some v := by
  constructor <;> simp [World.cell?, show W.heap[B]? = _ from h]
theorem Boxed2.new (W : World) (t : TypeId) (u v : Value) : Boxed2 (W.alloc (.cells #[u, v] t)) W.heap.size t u v := World.alloc_heap_new W _
theorem Boxed2.kept {W W' : World} {row : Option Nat} {B : Nat} {t : TypeId} {u v : Value} (h : Boxed2 W B t u v) (hg : W.grownBy W' row) (hne : some B ≠ row) : Boxed2 W' B t u v := (hg.block B h.lt hne).trans h
theorem cell_two_new (W : World) (u v : Value) (t : TypeId) : ∀ j x, [u, v][j]? = some x → (W.alloc (.cells #[u, v] t)).cell? ((⟨W.heap.size, 0, none⟩ : Addr).add j) = some x := by
  intro j x hj
  rw [Addr.add_lit, Nat.zero_add, cell_at]
  simpa using hj
theorem gaps_length_le : ∀ (L : List Int) (least last : Int), (M.gapsL least last L).length ≤ L.length + 1
  | [], least, last => by unfold M.gapsL; split <;> simp
  | i :: t, least, last => by
    have := gaps_length_le t (i + 1) last
    unfold M.gapsL
    split <;> simp <;> omega
set_option maxRecDepth 100000 in
set_option maxHeartbeats 2000000 in
theorem gaps_yes (h : Int) (L : List Int) (v : Value) (w : World) (hu : Us w v L) (hs : M.setB h L = true) :
    Calls Try.prog 19 #[.int .i64 h, v] w fun e w' => ∃ v', e = .returned (.tuple #[v', .int .i64 0]) ∧ w'.ownsRow w.heap.size 49 2 v' (M.gapsL 0 (M.p2 h - 1) L).length (spanC (M.gapsL 0 (M.p2 h - 1) L)) ∧ Below w.heap.size w w' := by
  have e1 := M.setE_yes hs
  have e2 : M.setLast h L = M.p2 h - 1 := by unfold M.setLast; rw [hs]; rfl
  obtain ⟨hh1, hh2, hlen, hrise, _, _⟩ := M.set_of hs
  have hp1 := M.p2_pos h
  have hp2 := M.p2_32 hh2
  have hgl := gaps_length_le L 0 (M.p2 h - 1)
  obtain ⟨i0, hi, hz0, hz1, hz2⟩ := info_parts Try.infoSpan
  have hu0 := hu
  obtain ⟨ao, cap, rfl, hq1, hq2, hq3, hq4⟩ := hu0
  have l0 : 0 ≤ M.p2 h - 1 := by omega
  have l1 : M.p2 h - 1 ≤ 4294967295 := by omega
  generalize M.p2 h - 1 = last at *
  generalize hm : L.length = m at *
  clear hq3 hq4 hs hp1 hp2
  refine (callsIn_wide (n := 6)).1 ?_
  refine callsIn_of_wp_marks Try.func19 rfl trivial ?_ rfl
  simp only [Try.ntmps19, List.size_toArray, List.length_cons, List.length_nil, Nat.reduceAdd, Nat.reduceSub, Array.replicate_succ, Array.replicate_zero, List.push_toArray, List.append_toArray, List.nil_append, List.cons_append]
  gi_wp2_with (first | (refine ⟨trivial, ?_⟩; gi_at_call 37; refine (callsIn_wide.2 (checkSet_any _ L _ _ hu)).mono ?_; rintro e w1 ⟨rfl, hb1⟩) | (refine ⟨trivial, ?_⟩; gi_at_call 38; refine (between_in Fence.wide _ trivial rfl _ _ _ _ _).mono ?_; rintro e w' ⟨rfl, rfl⟩))
  have bG := ((Boxed.new w1 41 (.slice none 0 0)).alloc (.cells #[.slice ao m cap] 31)).alloc (.cells #[.int .u64 last] 25)
  have bL := (Boxed.new (w1.alloc (.cells #[.slice none 0 0] 41)) 31 (.slice ao m cap)).alloc (.cells #[.int .u64 last] 25)
  have bR := Boxed.new ((w1.alloc (.cells #[.slice none 0 0] 41)).alloc (.cells #[.slice ao m cap] 31)) 25 (.int .u64 last)
  simp only [World.size_alloc] at bL bR
  have hB0 : Below w1.heap.size w1 (((w1.alloc (.cells #[.slice none 0 0] 41)).alloc (.cells #[.slice ao m cap] 31)).alloc (.cells #[.int .u64 last] 25)) := (((Below.refl _ w1).alloc (Nat.le_refl _) _).alloc (by simp) _).alloc (by simp; omega) _
  have hsz : (((w1.alloc (.cells #[.slice none 0 0] 41)).alloc (.cells #[.slice ao m cap] 31)).alloc (.cells #[.int .u64 last] 25)).heap.size = w1.heap.size + 3 := by simp
  obtain ⟨W0, hW0⟩ : ∃ W0, ((w1.alloc (.cells #[.slice none 0 0] 41)).alloc (.cells #[.slice ao m cap] 31)).alloc (.cells #[.int .u64 last] 25) = W0 := ⟨_, rfl⟩
  rw [hW0] at bG bL bR hB0 hsz ⊢
  clear hW0
  refine wpIn_rangeFunc_ownH rfl (by omega) (gf := 64) (lb := #[.pointer (some ⟨w1.heap.size + 1, 0, none⟩), .pointer (some ⟨w1.heap.size + 1 + 1, 0, none⟩)]) rfl trivial (enters_of Try.func64 (by kernel_rfl) rfl)
    (between_stops Fence.wide _ trivial rfl (by omega) (w1.heap.size + 1) (w1.heap.size + 1 + 1) L last _ hrise l0 l1 (by omega) W0 w1 (hu.below hb1) hB0 bL bR) Kps.trans ?hKb (Below.refl _ _) (fun _ => rfl)
    (fun pre W => (∃ v, Boxed W w1.heap.size 41 v ∧ W.ownsRow w1.heap.size 49 2 v pre.length (spanC pre) ∧ True) ∧ (Boxed W (w1.heap.size + 1 + 1) 25 (.int .u64 last) ∧ Below w1.heap.size w1 W))
    (fun _ _ _ => False)
    (OwnFrom.and (Own.from (holdsRow_own w1.heap.size w1.heap.size 41 49 2 (fun pre => pre.length) (fun pre => spanC pre) (fun _ _ => True)) _) (OwnFrom.and (Own.from (boxed_own _ _ _) _) (ownFrom_below (Nat.le_refl _) (by omega))))
    (fun _ _ _ _ _ hs _ _ => hs)
    ⟨⟨_, bG, World.ownsRow_nil _ _ _ _, trivial⟩, bR, hB0⟩
    (fun x a' W => ∃ Bx, w1.heap.size + 1 + 1 < Bx ∧ Boxed2 W Bx 49 (.int .u64 x.1) (.int .u64 x.2) ∧ a' = { tmps := #[.int .i64 h, .slice ao m cap, undef, undef, .slice none 0 0, .int .i64 0, .int .u64 last, .int .i64 0, .pointer (some ⟨w1.heap.size, 0, none⟩), .pointer (some ⟨Bx, 0, none⟩), .tuple #[.int .u64 last, .int .i64 0], .int .i64 h, .slice ao m cap, .tuple #[.int .u64 last, .int .i64 0], .int .u64 last, .int .i64 0, .int .i64 0, .bool false, undef, .slice ao m cap, .int .u64 last, .func (.func 64) #[] #[.pointer (some ⟨w1.heap.size + 1, 0, none⟩), .pointer (some ⟨w1.heap.size + 1 + 1, 0, none⟩)], spanV x, undef, undef, undef, undef, undef], defers := [] })
    (fun x a' _ X Y row hs hg hr => by
      obtain ⟨Bx, h1, h2, h3⟩ := hs
      refine ⟨Bx, h1, h2.kept hg (fun e => ?_), h3⟩
      obtain ⟨_, o, ho, hc⟩ := hr Bx e.symm
      rw [show X.heap[Bx]? = _ from h2] at ho; cases ho; cases hc)
    ?assign ?body ?done ?stop
  case hKb =>
    intro W l o o' hl ho hc _
    refine ⟨(belowK_b (w := W0) (n₀ := w1.heap.size) (by omega) W l o o' hl ho hc (by assumption)), fun v hv => hv.kept (grownBy_putObj' W l o') ?_⟩
    intro e
    obtain rfl : w1.heap.size + 1 + 1 = l := by simpa using e
    rw [show W.heap[w1.heap.size + 1 + 1]? = _ from hv] at ho; cases ho; cases hc
  case assign =>
    rintro l pre x W K ⟨⟨v, hv, hrow, _⟩, hR, hB⟩ hK
    gi_wp2
    exact hK _ _ ((KeepsOthers.alloc _ _).from _) ⟨(Below.refl _ W).alloc hB.size _, fun _ hh => hh.alloc _⟩ ⟨⟨v, hv.alloc _, hrow.alloc _, trivial⟩, hR.alloc _, hB.alloc hB.size _⟩ ⟨W.heap.size, hR.lt, Boxed2.new W _ _ _, rfl⟩
  case body =>
    rintro l pre x a' W hl _ ⟨⟨v, hv, hrow, _⟩, hR, hB⟩ ⟨Bx, hBx, bX, rfl⟩ hlt
    have hc := hv.cell
    obtain ⟨hx1, hx2⟩ := bX.cell
    have hpl : pre.length ≤ 2000 := by omega
    gi_wp2_with (gi_at_builtin; refine wpListIn_append_own _ rfl _ _ 41 rfl w1.heap.size 49 i0 _ 2 16 Try.underlying41 hi hz0 hz1 hz2 rfl (by decide) _ _ _ rfl (hrow.alloc _) ⟨W.heap.size, 0, none⟩ 1 1 [.int .u64 x.1, .int .u64 x.2] rfl rfl (cell_two_new _ _ _ _) (by simp [Value.oneCell']) (by unfold maxLen; omega) (by omega) (by have := hB.size; simp; omega) ?_; intro v' w2 hown' hgrow _; obtain ⟨g', cap', rfl⟩ := ownsRow_succ hown'; obtain ⟨hv1, hv2, hr2, hk2, hb2⟩ := hv.appended (by decide) hrow hB.size (Nat.le_refl _) hown' hgrow; have hc1 := hv1.cell; have hf1 := hv1.frozen)
    have hR2 : ∀ u, Boxed W (w1.heap.size + 1 + 1) 25 u → Boxed (w2.setCell ⟨w1.heap.size, 0, none⟩ (.slice (some ⟨g', 0, none⟩) (pre.length + 1) cap')) (w1.heap.size + 1 + 1) 25 u := fun u hu =>
      ((hu.alloc _).kept hgrow (hu.not_row (by decide) hrow)).other (by omega) _
    exact ⟨hk2.from _, ⟨hb2, hR2⟩, ⟨_, hv2, by rw [spanC_append, List.length_append]; exact hr2, trivial⟩, hR2 _ hR, hB.trans hb2⟩
  case done =>
    rintro D ys W hD rfl ⟨⟨v, hv, hrow, _⟩, hR, hB⟩ hK
    have hc := hv.cell
    gi_wp2
    refine ⟨by simp, .inl ⟨_, _, rfl, run_takeDeferred hK, ?_⟩⟩
    exact ⟨_, results_tmp2 rfl _ _ _, v, rfl, own_lower (ownsRow_putObj hrow _ hK rfl) hb1.size, (hb1.trans (hB.mono hb1.size)).trans (belowK_b (w := w) (Nat.le_refl _) W D _ _ (by have := hb1.size; omega) hK rfl rfl)⟩
  case stop =>
    rintro D c pre W _ _ h _
    exact h.elim
set_option maxRecDepth 100000 in
set_option maxHeartbeats 400000 in
theorem gaps_no (h : Int) (L : List Int) (v : Value) (w : World) (hu : Us w v L) (hs : M.setB h L = false) :
    Calls Try.prog 19 #[.int .i64 h, v] w fun e w' => e = .returned (.tuple #[.slice none 0 0, .int .i64 1]) ∧ Below w.heap.size w w' := by
  have e1 := M.setE_no hs
  go_enter Try.func19, Try.ntmps19
  go_wp2_with (first | (go_at_call 37; refine (checkSet_any _ L _ _ hu).mono ?_; rintro e w1 ⟨rfl, hb1⟩))
  go_ret2
  exact ⟨rfl, hb1⟩
end Go.Proofs.Ytmicgojojkkkhaa
namespace Go.Proofs.Ytmicgojojkkkhaa
open Go.RowKit
/-- the slice value v holds the spans S -/
def Ps (W : World) (v : Value) (S : List (Int × Int)) : Prop :=
  ∃ ao cap, v = .slice ao S.length cap ∧ S.length ≤ cap ∧ cap ≤ maxLen ∧ (∀ x ∈ S, 0 ≤ x.1 ∧ x.1 ≤ 18446744073709551615 ∧ 0 ≤ x.2 ∧ x.2 ≤ 18446744073709551615) ∧
    (0 < cap → ∃ b off, ao = some ⟨b, off, none⟩ ∧ b < W.heap.size ∧ ∀ j, j < S.length → W.cell? ⟨b, off + j * 2, none⟩ = some (.int .u64 (S[j]?.getD (0, 0)).1) ∧ W.cell? ⟨b, off + j * 2 + 1, none⟩ = some (.int .u64 (S[j]?.getD (0, 0)).2))
theorem Ps.below {W W' : World} {v : Value} {S : List (Int × Int)} (h : Ps W v S) (hb : Below W.heap.size W W') : Ps W' v S := by
  obtain ⟨ao, cap, h1, h2, h3, h4, h5⟩ := h
  refine ⟨ao, cap, h1, h2, h3, h4, fun h0 => ?_⟩
  obtain ⟨b, off, h6, h7, h8⟩ := h5 h0
  exact ⟨b, off, h6, Nat.lt_of_lt_of_le h7 hb.size, fun j hj => ⟨(hb.cell (p := ⟨b, off + j * 2, none⟩) h7).trans (h8 j hj).1, (hb.cell (p := ⟨b, off + j * 2 + 1, none⟩) h7).trans (h8 j hj).2⟩⟩
theorem Ps.alloc {W : World} {v : Value} {S : List (Int × Int)} (h : Ps W v S) (o : Obj) : Ps (W.alloc o) v S := h.below ((Below.refl _ _).alloc (Nat.le_refl _) o)
theorem Ps.drew {W : World} {v : Value} {S : List (Int × Int)} (h : Ps W v S) : Ps W.drew v S := h.below (Below.refl _ _).drew
theorem spanC_get : ∀ (S : List (Int × Int)) (j : Nat), j < S.length → (spanC S)[j * 2]? = some (.int .u64 (S[j]?.getD (0, 0)).1) ∧ (spanC S)[j * 2 + 1]? = some (.int .u64 (S[j]?.getD (0, 0)).2)
  | [], j, h => by simp at h
  | s :: t, 0, _ => by simp [spanC]
  | s :: t, j + 1, h => by
    have := spanC_get t j (by simpa using h)
    rw [show (j + 1) * 2 = j * 2 + 1 + 1 by omega]
    simpa [spanC] using this
theorem Ps.of_own {W : World} {base : Nat} {e : TypeId} {v : Value} {n : Nat} {S : List (Int × Int)} (h : W.ownsRow base e 2 v n (spanC S)) (hb : ∀ x ∈ S, 0 ≤ x.1 ∧ x.1 ≤ 18446744073709551615 ∧ 0 ≤ x.2 ∧ x.2 ≤ 18446744073709551615) : Ps W v S := by
  have hn : S.length = n := by have := h.1; rw [spanC_length] at this; omega
  rcases h.2 with ⟨h1, h2⟩ | ⟨g, cap, cur, h1, h2, h3, h4, h5, h6, h7⟩
  · exact ⟨none, 0, by rw [h1, hn, h2], by omega, by simp [maxLen], hb, fun h0 => by omega⟩
  · refine ⟨some ⟨g, 0, none⟩, cap, by rw [h1, hn], by omega, h5, hb, fun h0 => ⟨g, 0, rfl, (Array.getElem?_eq_some_iff.1 h3).1, fun j hj => ?_⟩⟩
    subst h1
    have hc := h.cells (g := g) rfl
    obtain ⟨g1, g2⟩ := spanC_get S j hj
    have c1 := hc _ _ g1
    have c2 := hc _ _ g2
    rw [Addr.add_lit] at c1 c2
    exact ⟨c1, by rw [Nat.add_assoc]; exact c2⟩
theorem M.live_set : M.setB 2 [1] = true := by decide +kernel
theorem M.live_gaps : M.gapsL 0 (M.p2 2 - 1) [1] = [(0, 0), (2, 3)] := by decide +kernel
theorem Ps.lit (W : World) (e : TypeId) : Ps (W.alloc (.cells #[.int .u64 0, .int .u64 0, .int .u64 2, .int .u64 3] e)) (.slice (some ⟨W.heap.size, 0, none⟩) 2 2) [(0, 0), (2, 3)] := by
  refine ⟨_, _, rfl, by simp, by unfold maxLen; omega, by simp, fun _ => ⟨W.heap.size, 0, rfl, by simp, fun j hj => ?_⟩⟩
  rw [cell_at, cell_at]
  match j, hj with
  | 0, _ => exact ⟨rfl, rfl⟩
  | 1, _ => exact ⟨rfl, rfl⟩
end Go.Proofs.Ytmicgojojkkkhaa
namespace Go.Proofs.Ytmicgojojkkkhaa.M
theorem withL_length {L : List Int} {i : Int} (h : L.Pairwise (· < ·)) (hi : has L i = false) : (withL L i).length = L.length + 1 := by
  rw [← with_parts h hi]
  simp only [List.length_append, List.length_take, List.length_drop, List.length_cons, List.length_nil]
  have := pos_le L i
  omega
theorem has_iff {L : List Int} {i : Int} : has L i = true ↔ i ∈ L := by unfold has; simp
theorem hasnt_iff {L : List Int} {i : Int} : has L i = false ↔ i ∉ L := by unfold has; simp
theorem isB_of {h i : Int} (hi : isB h i = true) : 1 ≤ h ∧ h ≤ 32 ∧ i < p2 h := by
  unfold isB at hi
  simp only [Bool.and_eq_true, decide_eq_true_eq] at hi
  exact ⟨(ht_of hi.1).1, (ht_of hi.1).2, hi.2⟩
theorem find_mk {h : Int} {L : List Int} {i : Int} (hs : setB h L = true) (hi : isB h i = true) : fndE h L i = 0 := by unfold fndE; rw [hs, hi]; rfl
theorem with_mk {h : Int} {L : List Int} {i : Int} (hs : setB h L = true) (hi : isB h i = true) (hh : has L i = false) (hl : L.length < 1024) : withE h L i = 0 := by
  unfold withE; rw [if_pos (find_mk hs hi), hh]
  simp; omega
theorem out_mk {h : Int} {L : List Int} {i : Int} (hs : setB h L = true) (hi : isB h i = true) (hh : has L i = true) : outE h L i = 0 := by
  unfold outE; rw [if_pos (find_mk hs hi), hh]; rfl
/-- what is put in: a set, with it in it; taken out again, the set as it was -/
theorem with_facts {h : Int} {L : List Int} {i : Int} (h0 : 0 ≤ i) (hE : withE h L i = 0) (hl : L.length ≤ 60) :
    setB h (withL L i) = true ∧ (withL L i).length = L.length + 1 ∧ has (withL L i) i = true ∧ fndE h (withL L i) i = 0 ∧ hasV h (withL L i) i = true ∧ outE h (withL L i) i = 0 ∧ outLf (withL L i) i = L ∧ ∀ x ∈ withL L i, 0 ≤ x ∧ x ≤ 18446744073709551615 := by
  obtain ⟨f0, f1, f2, f3, f4, f5, f6⟩ := withE_zero hE
  obtain ⟨s1, s2, s3, s4, s5, s6⟩ := set_of f4
  have hb := (isB_of f6).2.2
  have hp := p2_32 s2
  have hlen := withL_length s5 f1
  have hset : setB h (withL L i) = true := by
    refine set_mk s1 s2 (by omega) (withL_rising s5) fun x hx => ?_
    rcases withL_mem.1 hx with hx | rfl
    · exact s6 x hx
    · exact ⟨h0, hb⟩
  have hhas : has (withL L i) i = true := has_iff.2 (withL_mem.2 (.inr rfl))
  have hf := find_mk hset f6
  refine ⟨hset, hlen, hhas, hf, by unfold hasV; rw [hf, hhas]; rfl, out_mk hset f6 hhas, ?_, ?_⟩
  · refine rising_extL ((withL_rising s5).filter _) s5 fun x => ?_
    unfold outLf
    rw [List.mem_filter, withL_mem]
    simp only [decide_eq_true_eq]
    constructor
    · rintro ⟨h1 | h1, h2⟩
      · exact h1
      · exact absurd h1 h2
    · intro hx
      refine ⟨.inl hx, ?_⟩
      rintro rfl
      exact hasnt_iff.1 f1 hx
  · intro x hx
    have := (set_of hset).2.2.2.2.2 x hx
    omega
theorem with_two {h : Int} {L : List Int} {i k : Int} (h0 : 0 ≤ i) (hE : withE h L i = 0) (hK : withE h L k = 0) (hik : i ≠ k) (hl : L.length ≤ 60) : withE h (withL L i) k = 0 ∧ withL (withL L i) k = withL (withL L k) i := by
  obtain ⟨hset, hlen, _⟩ := with_facts h0 hE hl
  obtain ⟨f0, f1, f2, f3, f4, f5, f6⟩ := withE_zero hE
  obtain ⟨g0, g1, g2, g3, g4, g5, g6⟩ := withE_zero hK
  have s5 := (set_of f4).2.2.2.2.1
  refine ⟨with_mk hset g6 ?_ (by omega), ?_⟩
  · rw [hasnt_iff, withL_mem]
    rintro (h1 | h1)
    · exact hasnt_iff.1 g1 h1
    · exact hik h1.symm
  · refine rising_extL (withL_rising (withL_rising s5)) (withL_rising (withL_rising s5)) fun x => ?_
    simp only [withL_mem]
    constructor
    · rintro ((h1 | h1) | h1)
      · exact .inl (.inl h1)
      · exact .inr h1
      · exact .inl (.inr h1)
    · rintro ((h1 | h1) | h1)
      · exact .inl (.inl h1)
      · exact .inr h1
      · exact .inl (.inr h1)
end Go.Proofs.Ytmicgojojkkkhaa.M
namespace Go.Proofs.Ytmicgojojkkkhaa
open Go.RowKit
theorem drop_span {S : List (Int × Int)} (k : Nat) (hk : k < S.length) : S.drop k = S[k]?.getD (0, 0) :: S.drop (k + 1) := by
  rw [List.drop_eq_getElem_cons hk]; simp [hk]
theorem span_mem {S : List (Int × Int)} {P : Int × Int → Prop} (h : ∀ x ∈ S, P x) (k : Nat) (hk : k < S.length) : P (S[k]?.getD (0, 0)) := by
  have : S[k]?.getD (0, 0) = S[k] := by simp [hk]
  rw [this]; exact h _ (List.getElem_mem hk)
set_option maxRecDepth 100000 in
set_option maxHeartbeats 1000000 in
theorem many_any (h : Int) (S : List (Int × Int)) (v : Value) (w : World) (hu : Ps w v S) :
    Calls Try.prog 18 #[.int .i64 h, v] w fun e w' => e = .returned (.tuple #[.int .u64 (M.manyV h S), .int .i64 (M.manyE h S)]) ∧ Below w.heap.size w w' := by
  obtain ⟨ao, cap, rfl, hq1, hq2, hq3, hq4⟩ := hu
  have hm : S.length ≤ maxLen := by omega
  unfold maxLen at hm
  cases hh : M.htB h
  · have e1 : M.lastE h = 1 := by unfold M.lastE; rw [hh]; rfl
    have e2 : M.manyE h S = 1 := by unfold M.manyE M.manyB; rw [hh]; rfl
    have e3 : M.manyV h S = 0 := by unfold M.manyV M.manyB; rw [hh]; rfl
    rw [e2, e3]
    clear hq3 hq4
    generalize S.length = n at *
    go_enter Try.func18, Try.ntmps18
    go_wp2_with (first | (go_at_call 36; refine (lastLeaf_any _ _).mono ?_; rintro e w1 ⟨rfl, hb1⟩))
    go_ret2
    exact ⟨rfl, hb1⟩
  · have e1 : M.lastE h = 0 := by unfold M.lastE; rw [hh]; rfl
    have e2 : M.lastV h = M.p2 h - 1 := by unfold M.lastV; rw [hh]; rfl
    obtain ⟨h1, h2⟩ := M.ht_of hh
    have h3 := M.p2_32 h2
    have h4 := M.p2_pos h
    have HE : Hid (M.manyE h S = if M.spans 0 (M.p2 h - 1) S then 0 else 1) := by show _ = _; unfold M.manyE M.manyB; rw [hh]; rfl
    have HV : Hid (M.manyV h S = if M.spans 0 (M.p2 h - 1) S then M.many S else 0) := by show _ = _; unfold M.manyV M.manyB; rw [hh]; rfl
    have HQ3 : Hid (∀ k, k < S.length → 0 ≤ (S[k]?.getD (0, 0)).1 ∧ (S[k]?.getD (0, 0)).1 ≤ 18446744073709551615 ∧ 0 ≤ (S[k]?.getD (0, 0)).2 ∧ (S[k]?.getD (0, 0)).2 ≤ 18446744073709551615) := fun k hk => span_mem hq3 k hk
    have HD : Hid (∀ k, k < S.length → S.drop k = S[k]?.getD (0, 0) :: S.drop (k + 1)) := fun k hk => drop_span k hk
    have l0 : 0 ≤ M.p2 h - 1 := by omega
    have l1 : M.p2 h - 1 ≤ 4294967295 := by omega
    generalize M.p2 h - 1 = last at *
    generalize hn : S.length = n at *
    have Hn := hid hn
    clear hq3 hn h3 h4 hh
    go_enter Try.func18, Try.ntmps18
    go_wp2_with (first | (go_at_call 36; refine (lastLeaf_any _ _).mono ?_; rintro e w1 ⟨rfl, hb1⟩))
    go_loopw [22, 8, 9] (fun i t u wr => ∃ (k : Nat) (sm x : Int), k ≤ n ∧ i = .int .i64 k ∧ t = .int .u64 sm ∧ u = .int .u64 x ∧ 0 ≤ sm ∧ sm ≤ x ∧ x ≤ 4294967296 ∧ M.spans 0 last S = M.spans x last (S.drop k) ∧ M.many S = sm + M.many (S.drop k) ∧ Below w.heap.size w wr) (fun i _ _ _ => n - (intOf i).toNat)
    case atStart => exact ⟨0, 0, 0, by omega, rfl, rfl, rfl, by omega, by omega, by omega, by rw [List.drop_zero], by rw [List.drop_zero]; omega, hb1⟩
    case round =>
      clear hb1
      obtain ⟨k, sm, x, hk, rfl, rfl, rfl, s0, s1, s2, hR, hM, hb⟩ := hrel
      by_cases hlt : k < n
      · obtain ⟨b, off, rfl, hbl, hc⟩ := hq4 (by omega)
        have hc1 := (hb.cell (p := ⟨b, off + k * 2, none⟩) hbl).trans (hc k hlt).1
        have hc2 := (hb.cell (p := ⟨b, off + k * 2 + 1, none⟩) hbl).trans (hc k hlt).2
        obtain ⟨y0, y1, y2, y3⟩ := HQ3.out k hlt
        rw [HD.out k hlt] at hR hM
        simp only [M.spans, M.many] at hR hM
        have HR := hid hR
        have HM := hid hM
        clear hR hM hc HD HQ3 hq4
        generalize (S[k]?.getD (0, 0)).1 = y at *
        generalize (S[k]?.getD (0, 0)).2 = z at *
        by_cases c1 : x ≤ y
        · by_cases c2 : y ≤ z
          · by_cases c3 : z ≤ last
            · have g1 : ¬ (y < x) := by omega
              have g2 : ¬ (z < y) := by omega
              have g3 : ¬ (last < z) := by omega
              have HX : Hid (M.spans 0 last S = M.spans (z + 1) last (S.drop (k + 1))) := by show _ = _; rw [HR.out]; simp [c1, c2, c3]
              have HY : Hid (M.many S = sm + (z - y + 1) + M.many (S.drop (k + 1))) := by show _ = _; rw [HM.out]; omega
              clear HR HM HE HV
              go_wp2
              go_roundw
              case rel => exact ⟨k + 1, sm + (z - y + 1), z + 1, by omega, by go_num, by go_num, by go_num, by omega, by omega, by omega, HX.out, HY.out, hb.alloc hb.size _⟩
              case measure => simp [intOf]; omega
            · have g1 : ¬ (y < x) := by omega
              have g2 : ¬ (z < y) := by omega
              have g3 : (last < z) := by omega
              have HX : M.spans 0 last S = false := by rw [HR.out]; simp [c3]
              rw [HX] at HE HV
              clear HR HM HX
              go_wp2
              go_ret2
              exact ⟨by rw [HE.out, HV.out]; rfl, hb.alloc hb.size _⟩
          · have g1 : ¬ (y < x) := by omega
            have g2 : (z < y) := by omega
            have HX : M.spans 0 last S = false := by rw [HR.out]; simp [c2]
            rw [HX] at HE HV
            clear HR HM HX
            go_wp2
            go_ret2
            exact ⟨by rw [HE.out, HV.out]; rfl, hb.alloc hb.size _⟩
        · have g1 : (y < x) := by omega
          have HX : M.spans 0 last S = false := by rw [HR.out]; simp [c1]
          rw [HX] at HE HV
          clear HR HM HX
          go_wp2
          go_ret2
          exact ⟨by rw [HE.out, HV.out]; rfl, hb.alloc hb.size _⟩
      · obtain rfl : k = n := by omega
        rw [← Hn.out, List.drop_length] at hR hM
        have HX : M.spans 0 last S = true := by rw [hR]; rfl
        have HY : M.many S = sm := by rw [hM]; simp [M.many]
        rw [HX, HY] at HV
        rw [HX] at HE
        clear hR hM HD HQ3 hq4 HX HY
        go_wp2
        go_ret2
        exact ⟨by rw [HE.out, HV.out]; rfl, hb⟩
end Go.Proofs.Ytmicgojojkkkhaa
namespace Go.Proofs.Ytmicgojojkkkhaa
open Go.RowKit
theorem Ps.part {W : World} {b off cap n : Nat} {S : List (Int × Int)} (h : Ps W (.slice (some ⟨b, off, none⟩) n cap) S) (lo hi : Nat) (h1 : lo ≤ hi) (h2 : hi ≤ n) (h3 : ¬ cap = lo) : Ps W (.slice (some ⟨b, off + lo * 2, none⟩) (hi - lo) (cap - lo)) ((S.drop lo).take (hi - lo)) := by
  obtain ⟨ao, cap', e, q1, q2, q3, q4⟩ := h
  simp only [Value.slice.injEq] at e
  obtain ⟨rfl, rfl, rfl⟩ := e
  obtain ⟨b', off', e, q5, q6⟩ := q4 (by omega)
  cases e
  have hlen : ((S.drop lo).take (hi - lo)).length = hi - lo := by simp; omega
  refine ⟨_, _, by rw [hlen], by omega, by omega, fun x hx => q3 x (List.mem_of_mem_drop (List.mem_of_mem_take hx)), fun _ => ⟨b, off + lo * 2, rfl, q5, fun j hj => ?_⟩⟩
  rw [hlen] at hj
  have := q6 (lo + j) (by omega)
  rw [show off + lo * 2 + j * 2 = off + (lo + j) * 2 by omega, List.getElem?_take, if_pos hj, List.getElem?_drop]
  exact this
theorem Ps.empty {W : World} {ao : Option Addr} : Ps W (.slice ao 0 0) [] := ⟨ao, 0, rfl, by simp, by simp [maxLen], by simp, fun h => by omega⟩
theorem Ps.fits {W : World} {v : Value} {S : List (Int × Int)} (h : Ps W v S) : ∀ x ∈ S, 0 ≤ x.1 ∧ x.1 ≤ 18446744073709551615 ∧ 0 ≤ x.2 ∧ x.2 ≤ 18446744073709551615 := by
  obtain ⟨_, _, _, _, _, q, _⟩ := h; exact q
theorem Ps.one (w : World) (x y : Int) (e : TypeId) (h0 : 0 ≤ x ∧ x ≤ 18446744073709551615 ∧ 0 ≤ y ∧ y ≤ 18446744073709551615) : Ps (w.alloc (.cells #[.int .u64 x, .int .u64 y] e)) (.slice (some ⟨w.heap.size, 0, none⟩) 1 1) [(x, y)] := by
  refine ⟨_, _, rfl, by simp, by unfold maxLen; omega, by simpa using h0, fun _ => ⟨w.heap.size, 0, rfl, by simp, fun j hj => ?_⟩⟩
  match j, hj with
  | 0, _ => rw [cell_at, cell_at]; exact ⟨rfl, rfl⟩
theorem below_grown {W w' : World} {row : Option Nat} (hg : W.grownBy w' row) (hr : row = none) : Below W.heap.size W w' := (Below.refl _ W).grown hg (Nat.le_refl _) (fun k hk => by rw [hr] at hk; cases hk)
section
variable {P : Program} {w : World}
theorem wp_append_ps {o : Oper} {a : Act} {K : Act → World → Prop} {Q : Exit → Act → World → Prop} (s x : Operand) (t : TypeId)
    (ho : o.op = .call { callee := .builtin .append, args := #[s, x], argTypes := #[t, t] })
    (base : Nat) (e : TypeId) (i : TypeInfo) (ht : P.underlying t = some (.slice e)) (hi : P.info? e = some i) (hz : i.zero = some (.agg #[.int .u64 0, .int .u64 0])) (hsize : i.size = 2) (hby : i.bytes = 16)
    (v : Value) (n : Nat) (A : List (Int × Int)) (hs : a.eval s = v) (hown : w.ownsRow base e 2 v n (spanC A))
    (vx : Value) (S : List (Int × Int)) (hx : a.eval x = vx) (hu : Ps w vx S) (h63 : n + S.length ≤ 1000000) (hbase : base ≤ w.heap.size)
    (h : ∀ v' w', w'.ownsRow base e 2 v' (n + S.length) (spanC (A ++ S)) → w.grownBy w' v.ownBlock → K (a.put o.dst v') w') : o.wp P a w K Q := by
  obtain ⟨ao, cap, rfl, q1, q2, q3, q4⟩ := hu
  cases ao with
  | none =>
    have h0 : S.length = 0 := by
      rcases Nat.eq_zero_or_pos S.length with h | h
      · exact h
      · obtain ⟨b, off, e, _⟩ := q4 (by omega); cases e
    have hL : S = [] := List.eq_nil_of_length_eq_zero h0
    subst hL
    unfold Oper.wp execOp
    simp only [ho, resolve, invoke, builtin, Sem.run_bind, Sem.run_pure, Result.andThen_ok, List.map_toArray, List.map_cons, List.map_nil, hs, hx, List.length_nil, run_append_own_nil w base t o.type e i ht hi 2 v n _ hown cap]
    exact h v w (by simpa using hown) ⟨rfl, rfl, rfl, Nat.le_refl _, fun _ _ _ => rfl⟩
  | some ad =>
    refine wp_append_own w s x t ho base e i (.agg #[.int .u64 0, .int .u64 0]) 2 16 ht hi hz hsize hby rfl (by decide) v n _ hs hown ad S.length cap (spanC S) hx (spanC_length S) ?_ ?_ (by unfold maxLen; omega) (by omega) hbase ?_
    · intro j u hj
      have hjl : j < S.length * 2 := by
        have := (List.getElem?_eq_some_iff.1 hj).1
        rwa [spanC_length] at this
      obtain ⟨b, off, e, h1, h2⟩ := q4 (by omega)
      cases e
      have hh := h2 (j / 2) (by omega)
      have gg := spanC_get S (j / 2) (by omega)
      rw [Addr.add_lit]
      by_cases hp : j % 2 = 0
      · have e1 : j / 2 * 2 = j := by omega
        rw [e1] at hh gg
        rw [hh.1, ← gg.1]; exact hj
      · have e1 : j / 2 * 2 + 1 = j := by omega
        rw [Nat.add_assoc, e1] at hh
        rw [e1] at gg
        rw [hh.2, ← gg.2]; exact hj
    · intro u hu
      clear h
      induction S with
      | nil => simp [spanC] at hu
      | cons s t ih =>
        simp only [spanC, List.mem_cons] at hu
        rcases hu with rfl | rfl | hu
        · rfl
        · rfl
        · have : ∀ (T : List (Int × Int)), ∀ u ∈ spanC T, u.oneCell' = true := by
            intro T
            induction T with
            | nil => intro u hu; simp [spanC] at hu
            | cons a b ihb =>
              intro u hu
              simp only [spanC, List.mem_cons] at hu
              rcases hu with rfl | rfl | hu
              · rfl
              · rfl
              · exact ihb u hu
          exact this t u hu
    · intro v' w' h1 h2 _
      refine h v' w' ?_ h2
      rw [spanC_append]; exact h1
theorem wpList_append_ps {ops : Array Oper} {rest : List Oper} {o : Oper} {a : Act} {Q : Exit → Act → World → Prop} (hgd : Region.wanted o (yielded ops a.tmps) = true) (s x : Operand) (t : TypeId)
    (ho : o.op = .call { callee := .builtin .append, args := #[s, x], argTypes := #[t, t] })
    (base : Nat) (e : TypeId) (i : TypeInfo) (ht : P.underlying t = some (.slice e)) (hi : P.info? e = some i) (hz : i.zero = some (.agg #[.int .u64 0, .int .u64 0])) (hsize : i.size = 2) (hby : i.bytes = 16)
    (v : Value) (n : Nat) (A : List (Int × Int)) (hs : a.eval s = v) (hown : w.ownsRow base e 2 v n (spanC A))
    (vx : Value) (S : List (Int × Int)) (hx : a.eval x = vx) (hu : Ps w vx S) (h63 : n + S.length ≤ 1000000) (hbase : base ≤ w.heap.size)
    (h : ∀ v' w', w'.ownsRow base e 2 v' (n + S.length) (spanC (A ++ S)) → w.grownBy w' v.ownBlock → wpList P ops Q rest (a.put o.dst v') w') : wpList P ops Q (o :: rest) a w :=
  wpList_wanted hgd fun _ hK => wp_append_ps s x t ho base e i ht hi hz hsize hby v n A hs hown vx S hx hu h63 hbase fun v' w' h1 h2 => hK _ _ (h v' w' h1 h2)
theorem step_append_ps {ops : Array Oper} {o : Oper} {a : Act} {K : Act → World → Prop} {Q : Exit → Act → World → Prop} {E : Prop} (hgd : Region.wanted o (yielded ops a.tmps) = true) (s x : Operand) (t : TypeId)
    (ho : o.op = .call { callee := .builtin .append, args := #[s, x], argTypes := #[t, t] })
    (base : Nat) (e : TypeId) (i : TypeInfo) (ht : P.underlying t = some (.slice e)) (hi : P.info? e = some i) (hz : i.zero = some (.agg #[.int .u64 0, .int .u64 0])) (hsize : i.size = 2) (hby : i.bytes = 16)
    (v : Value) (n : Nat) (A : List (Int × Int)) (hs : a.eval s = v) (hown : w.ownsRow base e 2 v n (spanC A))
    (vx : Value) (S : List (Int × Int)) (hx : a.eval x = vx) (hu : Ps w vx S) (h63 : n + S.length ≤ 1000000) (hbase : base ≤ w.heap.size)
    (h : ∀ v' w', w'.ownsRow base e 2 v' (n + S.length) (spanC (A ++ S)) → w.grownBy w' v.ownBlock → K (a.put o.dst v') w') :
    if Region.wanted o (yielded ops a.tmps) = true then Oper.wp P o a w K Q else E := by
  rw [if_pos hgd]
  exact wp_append_ps s x t ho base e i ht hi hz hsize hby v n A hs hown vx S hx hu h63 hbase h
end
end Go.Proofs.Ytmicgojojkkkhaa
