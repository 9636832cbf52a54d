/-
  What whole.Cover answers at every input: each subset of what hangs, without a J. Conditions: the slice holds numbers, they fit their kind.
-/
import Derived.Test.YtmicgojojkkkhaaGreatZO11
import Derived.Test.YtmicgojojkkkhaaGreatZON
import Derived.Test.YtmicgojojkkkhaaGreatZTR
namespace Go.Proofs.YtmicgojojkkkhaaGreat
open Go.RowKit
namespace M
/-- each node as a subset without a J -/
def bareL (X : List Int) : List (Int × Int) := X.map fun n => (n, 0)
def cvL (h : Int) (L : List Int) : List (Int × Int) := bareL (thV h L)
theorem bare_length (X : List Int) : (bareL X).length = X.length := by unfold bareL; simp
theorem bare_at (X : List Int) (k : Nat) (hk : k < X.length) : (bareL X)[k]? = some (X[k]?.getD 0, 0) := by
  unfold bareL; rw [List.getElem?_map, List.getElem?_eq_getElem hk]; rfl
theorem bare_take (X : List Int) (k : Nat) (hk : k < X.length) : (bareL X).take (k + 1) = (bareL X).take k ++ [(X[k]?.getD 0, 0)] := by
  rw [List.take_add_one, bare_at X k hk]; rfl
theorem cvL_no {h : Int} {L : List Int} (hs : ¬ setE h L = 0) : cvL h L = [] := by unfold cvL thV; rw [if_neg hs]; rfl
theorem thV_len {h : Int} {L : List Int} : (thV h L).length ≤ 80000 := by
  unfold thV
  by_cases e : setE h L = 0
  · rw [if_pos e]
    by_cases h0 : L.length = 0
    · rw [if_pos h0]; simp
    · rw [if_neg h0]
      have := flat_len (outk_len h L) (tree h L)
      have := (tree_facts (setE_zero.1 e)).2.2
      have := (set_of (setE_zero.1 e)).2.2.1
      omega
  · rw [if_neg e]; simp
end M
theorem elSub_set (A R : List (Int × Int)) (y x : Int × Int) (n : Nat) (hn : A.length = n) : ((elSub.cells (A ++ y :: R)).set (n * 2) (.int .u64 x.1)).set (n * 2 + 1) (.int .u64 x.2) = elSub.cells (A ++ x :: R) := by
  have hl : (elSub.cells A).length = n * 2 := by rw [elSub.cells_length A, hn]; rfl
  rw [elSub.cells_append, elSub.cells_append]
  show ((elSub.cells A ++ (.int .u64 y.1 :: .int .u64 y.2 :: elSub.cells R)).set _ _).set _ _ = elSub.cells A ++ (.int .u64 x.1 :: .int .u64 x.2 :: elSub.cells R)
  rw [← hl, List.set_append_right _ _ (by omega), List.set_append_right _ _ (by omega)]
  simp
theorem elSub_zeros (n : Nat) : (madeCells #[Value.int .u64 0, .int .u64 0] (n * 2)).toList = elSub.cells (List.replicate n (0, 0)) := by
  have hl : (elSub.cells (List.replicate n (0, 0))).length = n * 2 := by rw [elSub.cells_length]; simp; rfl
  refine List.ext_getElem? fun j => ?_
  by_cases h : j < n * 2
  · have h1 := elSub.cells_get (List.replicate n (0, 0)) (j / 2) (j % 2) (0, 0) (by rw [List.getElem?_replicate, if_pos (by omega)]) (by show j % 2 < 2; omega)
    rw [show j / 2 * elSub.size + j % 2 = j by show j / 2 * 2 + j % 2 = j; omega] at h1
    rw [h1]
    have h2 : j % 2 = 0 ∨ j % 2 = 1 := by omega
    rcases h2 with h2 | h2 <;> simp [madeCells, h, h2, elSub]
  · rw [List.getElem?_eq_none (l := elSub.cells _) (by rw [hl]; omega), List.getElem?_eq_none (by simp [madeCells]; omega)]
/-- the row behind k rounds -/
abbrev halfS (X : List Int) (k : Nat) : List (Int × Int) := (M.bareL X).take k ++ List.replicate (X.length - k) (0, 0)
theorem halfS_set (X : List Int) (k : Nat) (hk : k < X.length) : ((elSub.cells (halfS X k)).set (k * 2) (.int .u64 (X[k]?.getD 0))).set (k * 2 + 1) (.int .u64 0) = elSub.cells (halfS X (k + 1)) := by
  have hr : List.replicate (X.length - k) ((0 : Int), (0 : Int)) = (0, 0) :: List.replicate (X.length - (k + 1)) (0, 0) := by
    rw [show X.length - k = (X.length - (k + 1)) + 1 by omega, List.replicate_succ]
  unfold halfS
  rw [hr, M.bare_take X k hk, List.append_assoc]
  exact elSub_set _ _ _ (X[k]?.getD 0, 0) k (by rw [List.length_take, M.bare_length]; omega)
set_option maxRecDepth 100000 in
theorem Tryz.infoSub : (Tryz.prog.info? 25).map (fun i => (i.zero, i.size, i.bytes)) = some (some (.agg #[.int .u64 0, .int .u64 0]), 2, 16) := by kernel_rfl
set_option maxRecDepth 100000 in
set_option maxHeartbeats 1000000 in
theorem coverOne_any (n : Int) (w : World) :
    Calls Tryz.prog 38 #[.int .u64 n] w fun e w' => e = .returned (.agg #[.int .u64 n, .int .u64 0]) ∧ Below w.heap.size w w' := by
  have X0 := Bi.new w 25 0 0
  obtain ⟨X0a, X0b⟩ := X0.facts
  go_enter Tryz.func38, Tryz.ntmps38
  go_wp2
  refine bodyPost_ret (v := .agg #[.int .u64 _, .int .u64 _]) (by simp [results, Tryz.results38, go_sem]) rfl ⟨rfl, ?_⟩
  exact below_one (Below.refl _ _)
set_option maxRecDepth 100000 in
set_option maxHeartbeats 2000000 in
theorem each_any (X : List Int) (v : Value) (w : World) (hu : Us w v X) (hX : X.length ≤ 80000) :
    Calls Tryz.prog 37 #[v, .func (.func 38) #[] #[]] w fun e w' => ∃ v', e = .returned v' ∧ Ss w' v' (M.bareL X) ∧ Below w.heap.size w w' := by
  obtain ⟨i0, hi, hz0, hz1, hz2⟩ := info_parts Tryz.infoSub
  obtain ⟨ao, cap, rfl, -, hv⟩ := us_view hu
  have HF := hidq (fun x hx => hu.fits x hx)
  have U0 := hidq hu
  have HV := hidq hv
  have HX := hidq hX
  clear hu hv hX
  generalize hN : X.length = N at *
  have HN := hidq hN
  clear hN
  go_enter Tryz.func37, Tryz.ntmps37
  go_wp2_with (at_make; refine wpList_make_full _ rfl _ _ 27 rfl w.heap.size 25 i0 (.agg #[.int .u64 0, .int .u64 0]) 2 Tryz.underlying27 hi hz0 hz1 _ _ _ _ N rfl rfl rfl rfl ?b2 ?b3 ?b4 ?_)
  case b2 => rw [hz2]; have := HX.out; omega
  case b3 => unfold maxLen; have := HX.out; omega
  case b4 => exact Nat.le_refl _
  intro w1 hown hgrow
  have hb1 : Below w.heap.size w w1 := (Below.refl _ w).grown hgrow (Nat.le_refl _) (fun k hk => by cases hk)
  rw [elSub_zeros] at hown
  have hown0 : w1.ownsRow w.heap.size 25 2 (Value.slice (some ⟨w.heap.size, 0, none⟩) N N) N (elSub.cells (halfS X 0)) := by
    unfold halfS; rw [HN.out]; simpa using hown
  clear hown hgrow
  go_wp2
  go_loopw [13] (fun i wr => ∃ k : Nat, k ≤ N ∧ i = .int .i64 k ∧ wr.ownsRow w.heap.size 25 2 (Value.slice (some ⟨w.heap.size, 0, none⟩) N N) N (elSub.cells (halfS X k)) ∧ Below w.heap.size w wr) (fun i _ => N - (intOf i).toNat)
  case atStart => exact ⟨0, by omega, rfl, hown0, hb1⟩
  case round =>
    clear hown0 hb1
    obtain ⟨k, hk, rfl, hown, hbel⟩ := hrel
    by_cases hlt : k < N
    · have hki : (k : Int) < N := by omega
      have hN8 := HX.out
      obtain ⟨bF, oF, rfl, -⟩ := HV.out (by omega)
      have yc := (U0.out.below hbel).cellAt k (by rw [HN.out]; exact hlt)
      have HS := hidq (halfS_set X k (by rw [HN.out]; exact hlt))
      generalize X[k]?.getD 0 = y at *
      have HO := hidq hown
      have HB := hidq hbel
      clear hown hbel
      go_wp2_with (go_at_call 38; refine (coverOne_any y _).mono ?_; rintro e w2 ⟨rfl, hb2⟩; have O2 := own_kept HO.out hb2; have B2 := hidq (below_trans HB.out hb2); obtain ⟨⟨u0, c0⟩, f0⟩ := (⟨⟨_, (O2.cellAt (k * 2) (by omega)).trans (List.getElem?_eq_getElem (by rw [O2.1]; omega))⟩, O2.frozenAt (k * 2)⟩ : (∃ u, w2.cell? ⟨w.heap.size, k * 2, none⟩ = some u) ∧ w2.frozen? ⟨w.heap.size, k * 2, none⟩ = false); obtain ⟨⟨u1, c1⟩, f1⟩ := (⟨⟨_, (O2.cellAt (k * 2 + 1) (by omega)).trans (List.getElem?_eq_getElem (by rw [O2.1]; omega))⟩, O2.frozenAt (k * 2 + 1)⟩ : (∃ u, w2.cell? ⟨w.heap.size, k * 2 + 1, none⟩ = some u) ∧ w2.frozen? ⟨w.heap.size, k * 2 + 1, none⟩ = false); have ST := hidq ((O2.stored (k * 2) (.int .u64 y)).1.stored (k * 2 + 1) (.int .u64 0)); clear O2 hb2)
      go_roundw
      case rel => exact ⟨k + 1, by omega, by go_num, by rw [← HS.out]; exact ST.out.1, (B2.out.setCell (Nat.le_refl _) _).setCell (Nat.le_refl _) _⟩
      case measure => simp [intOf]; omega
    · obtain rfl : k = N := by omega
      have hki : ¬ (k : Int) < k := by omega
      have HO := hidq hown
      have HB := hidq hbel
      clear hown hbel
      go_wp2
      go_ret
      refine ⟨_, rfl, Sl.of_own (E := elSub) (by have := HO.out; rw [show halfS X k = M.bareL X by unfold halfS; rw [HN.out, Nat.sub_self, List.replicate_zero, List.append_nil]; exact List.take_of_length_le (by rw [M.bare_length]; exact Nat.le_of_eq HN.out)] at this; exact this) ?_, HB.out⟩
      intro x hx
      obtain ⟨n, hn, rfl⟩ := List.mem_map.1 hx
      have := HF.out n hn
      exact ⟨this.1, this.2, Int.le_refl 0, (show (0 : Int) ≤ 18446744073709551615 by decide)⟩
set_option maxRecDepth 100000 in
set_option maxHeartbeats 1000000 in
theorem cover_any (h : Int) (L : List Int) (v : Value) (w : World) (hu : Us w v L) :
    Calls Tryz.prog 14 #[.int .i64 h, v] w fun e w' => ∃ v', e = .returned (.tuple #[v', .int .i64 (M.setE h L)]) ∧ Ss w' v' (M.cvL h L) ∧ Below w.heap.size w w' := by
  obtain ⟨ao, cap, rfl, -⟩ := us_view hu
  have HC := hidq (stHang_any h L _ w hu)
  have HL := hidq (M.thV_len (h := h) (L := L))
  by_cases hE : M.setE h L = 0
  · rw [hE] at HC ⊢
    clear hu
    unfold M.cvL
    generalize M.thV h L = X at *
    go_enter Tryz.func14, Tryz.ntmps14
    go_wp2_with (first | (go_at_call 36; refine HC.out.mono ?_; rintro e w1 ⟨v1, rfl, u1, hb1⟩; have U1 := hidq u1; have B1 := hidq hb1; obtain ⟨a1, c1, rfl, -⟩ := us_view u1; clear u1 hb1) | (go_at_call 37; refine (each_any X _ _ U1.out HL.out).mono ?_; rintro e w2 ⟨v2, rfl, s2, hb2⟩; have S2 := hidq s2; have B2 := hidq (below_trans B1.out hb2); clear s2 hb2))
    go_ret2
    exact ⟨_, rfl, S2.out, B2.out⟩
  · rw [M.setE_one hE] at HC
    rw [M.cvL_no hE, M.setE_one hE]
    clear hu
    generalize M.thV h L = X at *
    go_enter Tryz.func14, Tryz.ntmps14
    go_wp2_with (first | (go_at_call 36; refine HC.out.mono ?_; rintro e w1 ⟨v1, rfl, u1, hb1⟩; have B1 := hidq hb1; clear u1 hb1))
    go_ret2
    exact ⟨_, rfl, Sl.nil _ _, B1.out⟩
end Go.Proofs.YtmicgojojkkkhaaGreat
