/-
  The iterator over the spans between the leaves of a set: all of them, in order. Conditions: the slice holds a rising list, none above the last.
-/
import Derived.Test.YtbgfbhfjlphpkaaG3
import Derived.RangeFuncNested
import Derived.RangeFuncBox
import Derived.RangeFuncLeaves
import Derived.Shelf.Abstract
import Derived.WalkKit
import Derived.OwnWalkIn
import Derived.TacticsInMore
import Derived.LoopNIn
import Derived.LoopIn
namespace Go.Proofs.Ytbgfbhfjlphpkaa
open Go.RowKit Go.Shelf
attribute [local go_sem] Oper.semAt_some
/-- a span as the program hands it on -/
abbrev spanV (x : Int × Int) : Value := .agg #[.int .u64 x.1, .int .u64 x.2]
/-- what a round keeps: what lay below n₀, and the box of the last leaf -/
def Kps (n₀ Br : Nat) (A B : World) : Prop := Below n₀ A B ∧ ∀ v, Boxed A Br 23 v → Boxed B Br 23 v
theorem Kps.trans {n₀ Br : Nat} {A B C : World} (h1 : Kps n₀ Br A B) (h2 : Kps n₀ Br B C) : Kps n₀ Br A C := ⟨h1.1.trans h2.1, fun v h => h2.2 v (h1.2 v h)⟩
theorem Kps.refl (n₀ Br : Nat) (A : World) : Kps n₀ Br A A := ⟨Below.refl _ _, fun _ h => h⟩
set_option maxRecDepth 100000 in
set_option maxHeartbeats 2000000 in
theorem between1_in (F : Fence) (n : Nat) (hF : F.fn 50) (hro : F.round = none) (hn : 1 ≤ n) (l Bl Br n₀ N : Nat) (L : List Int) (last : Int) (v : Value) (J Jx : List (Int × Int) → World → Prop)
    (hN : (M.gapsL 0 last L).length = N) (hrise : M.rise 0 last L = true) (hl0 : 0 ≤ last) (hl1 : last ≤ 4294967295) (hlen : L.length ≤ 1024)
    (hY : ∀ pre x W, J pre W → pre.length < N → YieldAt F (n - 1) Try.prog l #[spanV x] W fun e W' =>
      (e = .returned (.bool true) ∧ J (pre ++ [x]) W' ∧ Kps n₀ Br W W') ∨ (e = .returned (.bool false) ∧ Jx (pre ++ [x]) W'))
    (W w : World) (hu : Us w v L) (hw : n₀ = w.heap.size) (hbw : Below n₀ w W) (hBl : W.cell? ⟨Bl, 0, none⟩ = some v) (hBr : Boxed W Br 23 (.int .u64 last)) (h0 : J [] W) :
    CallsIn F n Try.prog 50 #[.func (.yield l) #[] #[], .pointer (some ⟨Bl, 0, none⟩), .pointer (some ⟨Br, 0, none⟩)] W fun e W' => (∃ v, e = .returned v) ∧
      ((∃ ys, ys = M.gapsL 0 last L ∧ J ys W') ∨ (∃ pre, pre <+: M.gapsL 0 last L ∧ Jx pre W')) := by
  obtain ⟨hsrt, hbd⟩ := M.rise_of hrise
  obtain ⟨ao, cap, rfl, hq1, hq2, hq3, hq4⟩ := hu
  have HB : Hid (∀ k, k < L.length → 0 ≤ L[k]?.getD 0 ∧ L[k]?.getD 0 ≤ last) := fun k hk => getD_mem hbd k hk
  have HD : Hid (∀ k, k < L.length → L.drop k = L[k]?.getD 0 :: L.drop (k + 1)) := fun k hk => drop_getD k hk
  have HY := hid hY
  generalize hm : L.length = m at *
  have Hm := hid hm
  clear hq3 hm hsrt hbd hrise hY
  refine callsIn_of_wp Try.func50 rfl hF ?_ hro
  simp only [Try.ntmps50, List.size_toArray, List.length_cons, List.length_nil, Nat.reduceAdd, Nat.reduceSub, Array.replicate_succ, Array.replicate_zero, List.push_toArray, List.append_toArray, List.nil_append, List.cons_append]
  gi_wp2
  gi_loopw [9, 4] (fun i t wr => ∃ (k : Nat) (least : Int) (pre : List (Int × Int)), k ≤ m ∧ i = .int .i64 k ∧ t = .int .u64 least ∧ 0 ≤ least ∧ least ≤ 4294967296 ∧ M.gapsL 0 last L = pre ++ M.gapsL least last (L.drop k) ∧ J pre wr ∧ Kps n₀ Br W wr) (fun i _ _ => m - (intOf i).toNat)
  case atStart => exact ⟨0, 0, [], by omega, rfl, rfl, by omega, by omega, by rw [List.drop_zero]; rfl, h0, Kps.refl _ _ _⟩
  case round =>
    obtain ⟨k, least, pre, hk, rfl, rfl, hx0, hx1, hG, hJ, hK⟩ := hrel
    by_cases hlt : k < m
    · obtain ⟨b, off, rfl, hbl, hc⟩ := hq4 (by omega)
      have hcell : wr.cell? ⟨b, off + k, none⟩ = some (.int .u64 (L[k]?.getD 0)) := by
        rw [hK.1.cell (p := ⟨b, off + k, none⟩) (by show b < n₀; omega), hbw.cell (p := ⟨b, off + k, none⟩) (by show b < n₀; omega)]; exact hc k hlt
      obtain ⟨y0, y1⟩ := HB.out k hlt
      rw [HD.out k hlt] at hG
      clear hc hq4 HB HD
      generalize L[k]?.getD 0 = y at *
      by_cases c1 : least < y
      · have HX : Hid (M.gapsL 0 last L = (pre ++ [(least, y - 1)]) ++ M.gapsL (y + 1) last (L.drop (k + 1))) := by
          show _ = _; rw [hG, M.gapsL, if_pos c1]; simp
        have hpl : pre.length < N := by rw [← hN, HX.out]; simp
        obtain ⟨fn, tmps, assign, body, hy, hR⟩ := HY.out pre (least, y - 1) wr hJ hpl
        clear hG HY
        gi_wp2
        refine hR.mono ?_
        rintro e W3 (⟨rfl, hJ3, hk3⟩ | ⟨rfl, hJx3⟩)
        · gi_wp2
          go_roundw
          case rel => exact ⟨k + 1, y + 1, pre ++ [(least, y - 1)], by omega, by go_num, by go_num, by omega, by omega, HX.out, hJ3, hK.trans hk3⟩
          case measure => simp [intOf]; omega
        · gi_wp2
          refine bodyPost_ret (results_none rfl _ _ _) rfl ?_
          exact ⟨⟨_, rfl⟩, .inr ⟨_, ⟨_, HX.out.symm⟩, hJx3⟩⟩
      · have HX : Hid (M.gapsL 0 last L = pre ++ M.gapsL (y + 1) last (L.drop (k + 1))) := by
          show _ = _; rw [hG, M.gapsL, if_neg c1]; rfl
        clear hG HY
        have g1 : decide (least < y) = false := by simpa using c1
        gi_wp2
        refine ⟨fun _ h => (by cases h), ?_⟩
        gi_wp2
        go_roundw
        case rel => exact ⟨k + 1, y + 1, pre, by omega, by go_num, by go_num, by omega, by omega, HX.out, hJ, hK⟩
        case measure => simp [intOf]; omega
    · obtain rfl : k = m := by omega
      rw [← Hm.out, List.drop_length] at hG
      have hcl := (hK.2 _ hBr).cell
      clear HB HD hq4
      by_cases c1 : least ≤ last
      · have HX : Hid (M.gapsL 0 last L = pre ++ [(least, last)]) := by
          show _ = _; rw [hG, M.gapsL, if_pos c1]
        have hpl : pre.length < N := by rw [← hN, HX.out]; simp
        obtain ⟨fn, tmps, assign, body, hy, hR⟩ := HY.out pre (least, last) wr hJ hpl
        clear hG HY
        gi_wp2
        refine hR.mono ?_
        rintro e W3 (⟨rfl, hJ3, hk3⟩ | ⟨rfl, hJx3⟩)
        · gi_wp2
          go_end0
          exact ⟨⟨_, rfl⟩, .inl ⟨_, HX.out.symm, hJ3⟩⟩
        · gi_wp2
          go_end0
          exact ⟨⟨_, rfl⟩, .inr ⟨_, ⟨[], by rw [HX.out]; simp⟩, hJx3⟩⟩
      · have HX : Hid (M.gapsL 0 last L = pre) := by
          show _ = _; rw [hG, M.gapsL, if_neg c1]; simp
        clear hG HY
        gi_wp2
        go_end0
        exact ⟨⟨_, rfl⟩, .inl (by first | exact ⟨_, HX.out.symm, hJ⟩ | (rw [HX.out]; exact hJ))⟩
set_option maxHeartbeats 1000000 in
/-- between(l, last): both are boxed; the function value captures the boxes -/
theorem between_in (F : Fence) (n : Nat) (hF : F.fn 36) (hro : F.round = none) (ao : Option Addr) (len cap : Nat) (last : Int) (w : World) :
    CallsIn F n Try.prog 36 #[.slice ao len cap, .int .u64 last] w fun e w' => e = .returned (.func (.func 50) #[] #[.pointer (some ⟨w.heap.size, 0, none⟩), .pointer (some ⟨w.heap.size + 1, 0, none⟩)]) ∧ w' = (w.alloc (.cells #[.slice ao len cap] 22)).alloc (.cells #[.int .u64 last] 23) := by
  refine callsIn_of_wp Try.func36 rfl hF ?_ hro
  simp only [Try.ntmps36, List.size_toArray, List.length_cons, List.length_nil, Nat.reduceAdd, Nat.reduceSub, Array.replicate_succ, Array.replicate_zero, List.push_toArray, List.append_toArray, List.nil_append, List.cons_append]
  gi_wp2
  go_ret
  exact ⟨rfl, rfl⟩
theorem between_stops (F : Fence) (n : Nat) (hF : F.fn 50) (hro : F.round = none) (hn : 1 ≤ n) (Bl Br : Nat) (L : List Int) (last : Int) (v : Value)
    (hrise : M.rise 0 last L = true) (hl0 : 0 ≤ last) (hl1 : last ≤ 4294967295) (hlen : L.length ≤ 1024) (w w0 : World) (hu : Us w0 v L) (hb : Below w0.heap.size w0 w) (hBl : Boxed w Bl 22 v) (hBr : Boxed w Br 23 (.int .u64 last)) :
    SeqStopsK F n Try.prog 50 #[.pointer (some ⟨Bl, 0, none⟩), .pointer (some ⟨Br, 0, none⟩)] (fun x : Int × Int => #[spanV x]) (Kps w0.heap.size Br) (fun ys => ys = M.gapsL 0 last L) (fun pre => pre <+: M.gapsL 0 last L) (M.gapsL 0 last L).length w := fun l J Jx W hW _ _ hY h0 =>
  between1_in F n hF hro hn l Bl Br w0.heap.size _ L last v J Jx rfl hrise hl0 hl1 hlen hY W w0 hu rfl (hb.trans (hW.mono hb.size)) ((hW.cell (p := ⟨Bl, 0, none⟩) hBl.lt).trans hBl.cell) ((hW.block Br hBr.lt).trans hBr) h0
end Go.Proofs.Ytbgfbhfjlphpkaa
