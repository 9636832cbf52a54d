/-
  What the document's own answer Below of layer 2 comes to. Conditions: the slice holds numbers that fit.
-/
import Derived.Test.YthmiieiajfghnaaZG2
namespace Go.Proofs.Ythmiieiajfghnaa
open Go.RowKit
set_option maxRecDepth 100000 in
set_option maxHeartbeats 1000000 in
theorem rbel_yes (h : Int) (L : List Int) (v : Value) (n : Int) (w : World) (hu : Us w v L) (h0 : 0 ≤ n) (h1 : n ≤ 18446744073709551615) (hE : M.belE h L n = 0) :
    Calls Try.prog 36 #[.int .i64 h, v, .int .u64 n] w fun e w' => ∃ v', e = .returned (.tuple #[v', .int .i64 0]) ∧ w'.ownsRow w.heap.size 23 1 v' (M.belL (M.low h n) (M.high h n) L).length (u64s (M.belL (M.low h n) (M.high h n) L)) ∧ Below w.heap.size w w' := by
  have hs : M.setB h L = true ∧ M.okB h n = true := by
    unfold M.belE at hE
    cases hx : (M.setB h L && M.okB h n)
    · rw [hx] at hE; simp at hE
    · simpa using hx
  obtain ⟨hs, hk⟩ := hs
  have e1 := M.setE_yes hs
  have e2 := M.eChk_ok hk
  have e3 := M.lowV_ok hk
  have e4 := M.highV_ok hk
  have hlen := (M.set_of hs).2.2.1
  obtain ⟨i0, hi0, hz0, hz1, hz2⟩ := info_parts Try.infoU64
  generalize M.low h n = lo at *
  generalize M.high h n = hi at *
  clear hE hs hk
  have hu0 := hu
  obtain ⟨ao, cap, rfl, hq1, hq2, hq3, hq4⟩ := hu0
  have HQ3 : Hid (∀ k, k < L.length → 0 ≤ L[k]?.getD 0 ∧ L[k]?.getD 0 ≤ 18446744073709551615) := fun k hk => getD_mem hq3 k hk
  have HF : Hid (∀ k, k < L.length → (L.take (k + 1)).filter (fun x => decide (lo ≤ x) && decide (x ≤ hi)) = (L.take k).filter (fun x => decide (lo ≤ x) && decide (x ≤ hi)) ++ (if (decide (lo ≤ L[k]?.getD 0) && decide (L[k]?.getD 0 ≤ hi)) then [L[k]?.getD 0] else [])) := fun k hk => filter_take _ k hk
  have HL : Hid (∀ f k, ((L.take k).filter f).length ≤ L.length) := fun f k => filter_take_le f k
  have HT : Hid (L.take L.length = L) := List.take_length
  clear hq3
  unfold M.belL
  generalize hn : L.length = m at *
  go_enter Try.func36, Try.ntmps36
  go_wp2_with (first | (go_at_call 58; refine (rleaves_any _ _ _ (by omega) (by omega)).mono ?_; rintro e w1 ⟨rfl, hb1⟩) | (go_at_call 51; refine (rset_any _ L _ _ ((hu.below hb1).alloc _)).mono ?_; rintro e w' ⟨rfl, hw⟩; subst w'))
  go_loopw [29, 10] (fun j t wr => ∃ k : Nat, k ≤ m ∧ j = .int .i64 k ∧ wr.ownsRow (w1.heap.size + 1) 23 1 t ((L.take k).filter (fun x => decide (lo ≤ x) && decide (x ≤ hi))).length (u64s ((L.take k).filter (fun x => decide (lo ≤ x) && decide (x ≤ hi)))) ∧ Below (w1.heap.size + 1) (w1.alloc (.cells #[.int .u64 lo, .int .u64 hi] 41)) wr) (fun j _ _ => m - (intOf j).toNat)
  case atStart => exact ⟨0, by omega, rfl, by simpa using World.ownsRow_nil _ _ _ _, Below.refl _ _⟩
  case round =>
    obtain ⟨k, hk, rfl, hown, hb⟩ := hrel
    by_cases hlt : k < m
    · obtain ⟨b, off, rfl, hbl, hc⟩ := hq4 (by omega)
      have hbw := hb1.size
      have hcell : wr.cell? ⟨b, off + k, none⟩ = some (.int .u64 (L[k]?.getD 0)) := by
        rw [hb.cell (p := ⟨b, off + k, none⟩) (by show b < _; omega), ((Below.refl _ w1).alloc (Nat.le_refl _) _).cell (p := ⟨b, off + k, none⟩) (by show b < _; omega), hb1.cell (p := ⟨b, off + k, none⟩) hbl]
        exact hc k hlt
      have hcl : wr.cell? ⟨w1.heap.size, 0, none⟩ = some (.int .u64 lo) := by
        rw [hb.cell (p := ⟨w1.heap.size, 0, none⟩) (by show w1.heap.size < _; omega), cell_at]; rfl
      have hch : wr.cell? ⟨w1.heap.size, 1, none⟩ = some (.int .u64 hi) := by
        rw [hb.cell (p := ⟨w1.heap.size, 1, none⟩) (by show w1.heap.size < _; omega), cell_at]; rfl
      have hsz : w1.heap.size + 1 ≤ wr.heap.size := by have := hb.size; simpa using this
      obtain ⟨y0, y1⟩ := HQ3.out k hlt
      have HFk := hid (HF.out k hlt)
      have hl1 := HL.out (fun x => decide (lo ≤ x) && decide (x ≤ hi)) k
      have HO := hid hown
      clear hc hq4 HQ3 HF HL HT hown hu
      generalize (L.take k).filter (fun x => decide (lo ≤ x) && decide (x ≤ hi)) = A at *
      generalize L[k]?.getD 0 = y at *
      by_cases c1 : lo ≤ y
      · by_cases c2 : y ≤ hi
        · have HX : Hid ((L.take (k + 1)).filter (fun x => decide (lo ≤ x) && decide (x ≤ hi)) = A ++ [y]) := by show _ = _; rw [HFk.out]; simp [c1, c2]
          clear HFk
          go_wp2_with (first | (at_builtin; refine wpList_append_us rfl _ _ 22 rfl (w1.heap.size + 1) 23 i0 Try.underlying22 hi0 hz0 hz1 hz2 _ _ A rfl (HO.out.alloc _) _ [y] rfl (Us.one _ _ _ (by omega) (by omega)) (by simp only [List.length_cons, List.length_nil]; omega) (by simp; omega) ?_; intro v' w2 hown2 hgrow2))
          have hb2 : Below (w1.heap.size + 1) (w1.alloc (.cells #[.int .u64 lo, .int .u64 hi] 41)) w2 := (hb.alloc hsz _).grown hgrow2 (by simp; omega) (fun q hq => (HO.out.lt q hq).1)
          clear hcl hch hcell
          go_wp2
          go_roundw
          case rel => exact ⟨k + 1, by omega, by go_num, by rw [HX.out, List.length_append]; exact hown2, hb2⟩
          case measure => simp [intOf]; omega
        · have HX : Hid ((L.take (k + 1)).filter (fun x => decide (lo ≤ x) && decide (x ≤ hi)) = A) := by show _ = _; rw [HFk.out]; simp [c2]
          clear HFk
          go_wp2
          go_roundw
          case rel => exact ⟨k + 1, by omega, by go_num, by rw [HX.out]; exact HO.out, hb⟩
          case measure => simp [intOf]; omega
      · have HX : Hid ((L.take (k + 1)).filter (fun x => decide (lo ≤ x) && decide (x ≤ hi)) = A) := by show _ = _; rw [HFk.out]; simp [c1]
        clear HFk
        go_wp2
        go_roundw
        case rel => exact ⟨k + 1, by omega, by go_num, by rw [HX.out]; exact HO.out, hb⟩
        case measure => simp [intOf]; omega
    · obtain rfl : k = m := by omega
      rw [HT.out] at hown
      have HO := hid hown
      have hb0 : Below w.heap.size w wr := (hb1.alloc hb1.size _).trans (hb.mono (by have := hb1.size; omega))
      clear hown HQ3 HF HL hq4
      go_wp2
      go_ret2
      exact ⟨_, rfl, own_lower HO.out (by have := hb1.size; omega), hb0⟩
set_option maxHeartbeats 1000000 in
theorem rbel_no (h : Int) (L : List Int) (v : Value) (n : Int) (w : World) (hu : Us w v L) (h0 : 0 ≤ n) (h1 : n ≤ 18446744073709551615) (hE : M.belE h L n ≠ 0) :
    Calls Try.prog 36 #[.int .i64 h, v, .int .u64 n] w fun e w' => e = .returned (.tuple #[.slice none 0 0, .int .i64 1]) ∧ Below w.heap.size w w' := by
  cases hk : M.okB h n
  · have e2 : M.eChk h n = 1 := M.eChk_nok (by rw [hk]; simp)
    clear hE hk
    go_enter Try.func36, Try.ntmps36
    go_wp2_with (first | (go_at_call 58; refine (rleaves_any _ _ _ (by omega) (by omega)).mono ?_; rintro e w1 ⟨rfl, hb1⟩) | (go_at_call 51; refine (rset_any _ L _ _ ((hu.below hb1).alloc _)).mono ?_; rintro e w' ⟨rfl, hw⟩; subst w'))
    go_ret2
    exact ⟨rfl, hb1.alloc hb1.size _⟩
  · have e2 : M.eChk h n = 0 := M.eChk_ok hk
    have e1 : M.setE h L = 1 := by
      refine M.setE_no ?_
      cases hs : M.setB h L
      · rfl
      · exact absurd (by unfold M.belE; rw [hs, hk]; rfl) hE
    clear hE hk
    go_enter Try.func36, Try.ntmps36
    go_wp2_with (first | (go_at_call 58; refine (rleaves_any _ _ _ (by omega) (by omega)).mono ?_; rintro e w1 ⟨rfl, hb1⟩) | (go_at_call 51; refine (rset_any _ L _ _ ((hu.below hb1).alloc _)).mono ?_; rintro e w' ⟨rfl, hw⟩; subst w'))
    go_ret2
    exact ⟨rfl, hb1.alloc hb1.size _⟩
end Go.Proofs.Ythmiieiajfghnaa
