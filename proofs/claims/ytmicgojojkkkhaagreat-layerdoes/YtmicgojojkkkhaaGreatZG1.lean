/-
  What the document's own answers Is, Check, In, Has and Same of layer 2 come to. Conditions: the slices hold numbers that fit.
-/
import Derived.Test.YtmicgojojkkkhaaGreatZF4
namespace Go.Proofs.YtmicgojojkkkhaaGreat
open Go.RowKit
set_option maxRecDepth 100000 in
set_option maxHeartbeats 400000 in
theorem ris_any (h i : Int) (w : World) (h0 : 0 ≤ i) (h1 : i ≤ 18446744073709551615) :
    Calls Tryz.prog 116 #[.int .i64 h, .int .u64 i] w fun e w' => e = .returned (.bool (M.isB h i)) ∧ w' = w := by
  cases hi : M.isB h i
  · have e1 := M.leafE_isnt hi
    have e2 : (M.leafE h i == 0) = false := by rw [beq_eq_false_iff_ne]; exact (bne_iff_ne ..).1 e1
    go_enter Tryz.func116, Tryz.ntmps116
    go_wp2_with (first | (go_at_call 34; refine (rleaf_any _ _ _ (by omega) (by omega)).mono ?_; rintro e w' ⟨rfl, hw⟩; subst w'))
    go_ret
    exact ⟨rfl, rfl⟩
  · have e1 := M.leafE_is hi
    go_enter Tryz.func116, Tryz.ntmps116
    go_wp2_with (first | (go_at_call 34; refine (rleaf_any _ _ _ (by omega) (by omega)).mono ?_; rintro e w' ⟨rfl, hw⟩; subst w'))
    go_ret
    exact ⟨rfl, rfl⟩
/-- the one ahead of place k, or less than all -/
def M.prev (L : List Int) (k : Nat) : Int := if k = 0 then -1 else L[k - 1]?.getD 0
theorem M.prev_succ (L : List Int) (k : Nat) : M.prev L (k + 1) = L[k]?.getD 0 := by unfold M.prev; rw [if_neg (by omega)]; rfl
theorem M.isB_ht {h i : Int} (hh : M.htB h = true) : M.isB h i = decide (i ≤ M.p2 h - 1) := by
  unfold M.isB; rw [hh, Bool.true_and]
  by_cases hx : i < M.p2 h
  · rw [decide_eq_true hx, decide_eq_true (by omega)]
  · rw [decide_eq_false hx, decide_eq_false (by omega)]
set_option maxRecDepth 100000 in
set_option maxHeartbeats 1000000 in
theorem rset_any (h : Int) (L : List Int) (v : Value) (w : World) (hu : Us w v L) :
    Calls Tryz.prog 103 #[.int .i64 h, v] w fun e w' => e = .returned (.int .i64 (M.setE h L)) ∧ w' = w := by
  obtain ⟨ao, cap, rfl, hq1, hq2, hq3, hq4⟩ := hu
  have hm : L.length ≤ maxLen := by omega
  unfold maxLen at hm
  have e0 := M.eChk_one h
  cases hh : M.htB h
  · have e1 : M.setE h L = 1 := by unfold M.setE M.setB; rw [hh]; rfl
    rw [hh] at e0
    rw [e1]
    have e2 : M.eChk h 1 = 1 := e0
    clear hq3 hq4 e0
    generalize L.length = n at *
    go_enter Tryz.func103, Tryz.ntmps103
    go_wp2_with (first | (go_at_call 115; refine (rnodechk_any _ _ _ (by omega) (by omega)).mono ?_; rintro e w' ⟨rfl, hw⟩; subst w'))
    go_ret
    exact ⟨rfl, rfl⟩
  · rw [hh] at e0
    have e2 : M.eChk h 1 = 0 := e0
    clear e0
    by_cases hl : L.length ≤ 1024
    · have HS : Hid (M.setE h L = if M.rise 0 (M.p2 h - 1) L then 0 else 1) := by
        show _ = _
        unfold M.setE M.setB; rw [hh, decide_eq_true hl]; simp
      have HQ3 : Hid (∀ k, k < L.length → 0 ≤ L[k]?.getD 0 ∧ L[k]?.getD 0 ≤ 18446744073709551615) := fun k hk => getD_mem hq3 k hk
      have HD : Hid (∀ k, k < L.length → L.drop k = L[k]?.getD 0 :: L.drop (k + 1)) := fun k hk => drop_getD k hk
      have HI : Hid (∀ i, M.isB h i = decide (i ≤ M.p2 h - 1)) := fun i => M.isB_ht hh
      generalize hn : L.length = n at *
      have Hn := hid hn
      clear hq3 hn hh
      go_enter Tryz.func103, Tryz.ntmps103
      go_wp2_with (first | (go_at_call 115; refine (rnodechk_any _ _ _ (by omega) (by omega)).mono ?_; rintro e w' ⟨rfl, hw⟩; subst w'))
      go_loop [17] (fun i => ∃ k : Nat, k ≤ n ∧ i = .int .i64 k ∧ M.rise 0 (M.p2 h - 1) L = M.rise (M.prev L k + 1) (M.p2 h - 1) (L.drop k)) (fun i => n - (intOf i).toNat)
      case atStart => exact ⟨0, by omega, rfl, by rw [List.drop_zero]; rfl⟩
      case round =>
        obtain ⟨k, hk, rfl, hR⟩ := hrel
        by_cases hlt : k < n
        · obtain ⟨b, off, rfl, hb, hc⟩ := hq4 (by omega)
          have hcell := hc k hlt
          obtain ⟨y0, y1⟩ := HQ3.out k hlt
          rw [HD.out k hlt] at hR
          have hI := HI.out (L[k]?.getD 0)
          have HPS := hid (M.prev_succ L k)
          have hpc : 0 < k → w.cell? ⟨b, off + (k - 1), none⟩ = some (.int .u64 (M.prev L k)) ∧ 0 ≤ M.prev L k ∧ M.prev L k ≤ 18446744073709551615 := by
            intro hk0
            have := hc (k - 1) (by omega)
            unfold M.prev; rw [if_neg (by omega)]
            exact ⟨this, HQ3.out (k - 1) (by omega)⟩
          have hp0 : k = 0 → M.prev L k = -1 := by intro e; unfold M.prev; rw [if_pos e]
          simp only [M.rise] at hR
          have HR := hid hR
          clear hR hc HD HQ3 hq4 HI
          generalize L[k]?.getD 0 = y at *
          generalize M.prev L k = p at *
          by_cases c2 : y ≤ M.p2 h - 1
          · have g2 : M.isB h y = true := by rw [hI]; simpa using c2
            clear hI
            by_cases hk0 : k = 0
            · have hp := hp0 hk0
              subst hk0
              have HF : Hid (M.rise 0 (M.p2 h - 1) L = M.rise (y + 1) (M.p2 h - 1) (L.drop (0 + 1))) := by
                show _ = _
                rw [HR.out, hp]; simp [c2]; omega
              rw [Nat.add_zero] at hcell
              clear HR hp hp0 hpc
              go_wp2_with (first | (go_at_call 116; refine (ris_any _ _ _ (by omega) (by omega)).mono ?_; rintro e w' ⟨rfl, hw⟩; subst w'))
              go_round
              case rel => exact ⟨0 + 1, by omega, by go_num, by rw [HPS.out]; exact HF.out⟩
              case measure => simp [intOf]; omega
            · obtain ⟨pc, pp0, pp1⟩ := hpc (by omega)
              have gk : (0 : Int) < k := by omega
              have gk1 : ((k : Int) - 1).toNat = k - 1 := by omega
              by_cases c1 : y ≤ p
              · have HF : Hid (M.rise 0 (M.p2 h - 1) L = false) := by
                  show _ = _
                  rw [HR.out]; simp; omega
                rw [HF.out] at HS
                clear HR hpc hp0
                go_wp2_with (first | (go_at_call 116; refine (ris_any _ _ _ (by omega) (by omega)).mono ?_; rintro e w' ⟨rfl, hw⟩; subst w'))
                go_ret
                exact ⟨M.ret_int HS.out.symm, rfl⟩
              · have HF : Hid (M.rise 0 (M.p2 h - 1) L = M.rise (y + 1) (M.p2 h - 1) (L.drop (k + 1))) := by
                  show _ = _
                  rw [HR.out]; simp [c2]; omega
                clear HR hpc hp0
                go_wp2_with (first | (go_at_call 116; refine (ris_any _ _ _ (by omega) (by omega)).mono ?_; rintro e w' ⟨rfl, hw⟩; subst w'))
                go_round
                case rel => exact ⟨k + 1, by omega, by go_num, by rw [HPS.out]; exact HF.out⟩
                case measure => simp [intOf]; omega
          · have g2 : M.isB h y = false := by rw [hI]; simpa using c2
            have HF : Hid (M.rise 0 (M.p2 h - 1) L = false) := by
              show _ = _
              rw [HR.out]; simp [c2]
            rw [HF.out] at HS
            clear HR hI hpc hp0
            go_wp2_with (first | (go_at_call 116; refine (ris_any _ _ _ (by omega) (by omega)).mono ?_; rintro e w' ⟨rfl, hw⟩; subst w'))
            go_ret
            exact ⟨M.ret_int HS.out.symm, rfl⟩
        · obtain rfl : k = n := by omega
          have HF : M.rise 0 (M.p2 h - 1) L = true := by
            rw [hR, ← Hn.out, List.drop_length]; rfl
          rw [HF] at HS
          clear hR HD HQ3 hq4 HF HI
          go_wp2
          go_ret
          exact ⟨M.ret_int HS.out.symm, rfl⟩
    · have e1 : M.setE h L = 1 := by unfold M.setE M.setB; rw [decide_eq_false hl]; simp
      rw [e1]
      clear hq3 hq4 hh
      generalize L.length = n at *
      go_enter Tryz.func103, Tryz.ntmps103
      go_wp2_with (first | (go_at_call 115; refine (rnodechk_any _ _ _ (by omega) (by omega)).mono ?_; rintro e w' ⟨rfl, hw⟩; subst w'))
      go_ret
      exact ⟨rfl, rfl⟩
set_option maxRecDepth 100000 in
set_option maxHeartbeats 400000 in
theorem rleafin_any (L : List Int) (v : Value) (x : Int) (w : World) (hu : Us w v L) :
    Calls Tryz.prog 79 #[v, .int .u64 x] w fun e w' => e = .returned (.bool (M.has L x)) ∧ w' = w := by
  obtain ⟨ao, cap, rfl, hq1, hq2, hq3, hq4⟩ := hu
  have hm : L.length ≤ maxLen := by omega
  unfold maxLen at hm
  have HD : Hid (∀ k, k < L.length → L.drop k = L[k]?.getD 0 :: L.drop (k + 1)) := fun k hk => drop_getD k hk
  generalize hn : L.length = n at *
  have Hn := hid hn
  clear hq3 hn
  go_enter Tryz.func79, Tryz.ntmps79
  go_wp2
  go_loop [9] (fun i => ∃ k : Nat, k ≤ n ∧ i = .int .i64 k ∧ M.has L x = M.has (L.drop k) x) (fun i => n - (intOf i).toNat)
  case atStart => exact ⟨0, by omega, rfl, by rw [List.drop_zero]⟩
  case round =>
    obtain ⟨k, hk, rfl, hR⟩ := hrel
    by_cases hlt : k < n
    · obtain ⟨b, off, rfl, hb, hc⟩ := hq4 (by omega)
      have hcell := hc k hlt
      rw [HD.out k hlt] at hR
      generalize L[k]?.getD 0 = y at *
      by_cases c1 : y = x
      · have HF : Hid (M.has L x = true) := by show _ = _; rw [hR]; unfold M.has; simp [c1]
        have g1 : (y == x) = true := by rw [beq_iff_eq]; exact c1
        clear hR hc hq4 HD c1
        go_wp2
        go_ret
        exact ⟨M.ret_bool HF.out.symm, rfl⟩
      · have HF : Hid (M.has L x = M.has (L.drop (k + 1)) x) := by
          show _ = _; rw [hR]; unfold M.has
          refine decide_eq_decide.2 ?_
          simp only [List.mem_cons]
          constructor
          · rintro (e | e)
            · exact absurd e.symm c1
            · exact e
          · exact .inr
        have g1 : (y == x) = false := by rw [beq_eq_false_iff_ne]; exact c1
        clear hR hc hq4 HD c1
        go_wp2
        go_round
        case rel => exact ⟨k + 1, by omega, by go_num, HF.out⟩
        case measure => simp [intOf]; omega
    · obtain rfl : k = n := by omega
      have HF : Hid (M.has L x = false) := by show _ = _; rw [hR, ← Hn.out, List.drop_length]; rfl
      clear hR hq4 HD
      go_wp2
      go_ret
      exact ⟨M.ret_bool HF.out.symm, rfl⟩
end Go.Proofs.YtmicgojojkkkhaaGreat
namespace Go.Proofs.YtmicgojojkkkhaaGreat
open Go.RowKit
theorem Us.one (w : World) (x : Int) (e : TypeId) (h0 : 0 ≤ x) (h1 : x ≤ 18446744073709551615) : Us (w.alloc (.cells #[.int .u64 x] e)) (.slice (some ⟨w.heap.size, 0, none⟩) 1 1) [x] := by
  refine ⟨_, _, rfl, by simp, by unfold maxLen; omega, by simp; omega, fun _ => ⟨w.heap.size, 0, rfl, by simp, fun j hj => ?_⟩⟩
  match j, hj with
  | 0, _ => rw [Nat.zero_add, cell_at]; rfl
theorem filter_take {L : List Int} (f : Int → Bool) (k : Nat) (hk : k < L.length) : (L.take (k + 1)).filter f = (L.take k).filter f ++ (if f (L[k]?.getD 0) then [L[k]?.getD 0] else []) := by
  rw [take_getD k hk, List.filter_append]
  congr 1
  by_cases h : f (L[k]?.getD 0) = true
  · rw [if_pos h, List.filter_cons_of_pos h]; rfl
  · rw [if_neg h, List.filter_cons_of_neg h]; rfl
theorem filter_take_le {L : List Int} (f : Int → Bool) (k : Nat) : ((L.take k).filter f).length ≤ L.length :=
  Nat.le_trans (List.length_filter_le _ _) (by rw [List.length_take]; omega)
theorem append3_left (A : List Int) (i : Int) (B : List Int) (y : Int) : A ++ [i] ++ (B ++ [y]) = (A ++ [i] ++ B) ++ [y] := by simp
end Go.Proofs.YtmicgojojkkkhaaGreat
namespace Go.Proofs.YtmicgojojkkkhaaGreat
open Go.RowKit
set_option maxRecDepth 100000 in
set_option maxHeartbeats 1000000 in
theorem rbel_yes (h : Int) (L : List Int) (v : Value) (n : Int) (w : World) (hu : Us w v L) (h0 : 0 ≤ n) (h1 : n ≤ 18446744073709551615) (hE : M.belE h L n = 0) :
    Calls Tryz.prog 80 #[.int .i64 h, v, .int .u64 n] w fun e w' => ∃ v', e = .returned (.tuple #[v', .int .i64 0]) ∧ w'.ownsRow w.heap.size 23 1 v' (M.belL (M.low h n) (M.high h n) L).length (u64s (M.belL (M.low h n) (M.high h n) L)) ∧ Below w.heap.size w w' := by
  have hs : M.setB h L = true ∧ M.okB h n = true := by
    unfold M.belE at hE
    cases hx : (M.setB h L && M.okB h n)
    · rw [hx] at hE; simp at hE
    · simpa using hx
  obtain ⟨hs, hk⟩ := hs
  have e1 := M.setE_yes hs
  have e2 := M.eChk_ok hk
  have e3 := M.lowV_ok hk
  have e4 := M.highV_ok hk
  have hlen := (M.set_of hs).2.2.1
  obtain ⟨i0, hi0, hz0, hz1, hz2⟩ := info_parts Tryz.infoU64
  generalize M.low h n = lo at *
  generalize M.high h n = hi at *
  clear hE hs hk
  have hu0 := hu
  obtain ⟨ao, cap, rfl, hq1, hq2, hq3, hq4⟩ := hu0
  have HQ3 : Hid (∀ k, k < L.length → 0 ≤ L[k]?.getD 0 ∧ L[k]?.getD 0 ≤ 18446744073709551615) := fun k hk => getD_mem hq3 k hk
  have HF : Hid (∀ k, k < L.length → (L.take (k + 1)).filter (fun x => decide (lo ≤ x) && decide (x ≤ hi)) = (L.take k).filter (fun x => decide (lo ≤ x) && decide (x ≤ hi)) ++ (if (decide (lo ≤ L[k]?.getD 0) && decide (L[k]?.getD 0 ≤ hi)) then [L[k]?.getD 0] else [])) := fun k hk => filter_take _ k hk
  have HL : Hid (∀ f k, ((L.take k).filter f).length ≤ L.length) := fun f k => filter_take_le f k
  have HT : Hid (L.take L.length = L) := List.take_length
  clear hq3
  unfold M.belL
  generalize hn : L.length = m at *
  go_enter Tryz.func80, Tryz.ntmps80
  go_wp2_with (first | (go_at_call 81; refine (rleaves_any _ _ _ (by omega) (by omega)).mono ?_; rintro e w1 ⟨rfl, hb1⟩) | (go_at_call 103; refine (rset_any _ L _ _ ((hu.below hb1).alloc _)).mono ?_; rintro e w' ⟨rfl, hw⟩; subst w'))
  go_loopw [29, 10] (fun j t wr => ∃ k : Nat, k ≤ m ∧ j = .int .i64 k ∧ wr.ownsRow (w1.heap.size + 1) 23 1 t ((L.take k).filter (fun x => decide (lo ≤ x) && decide (x ≤ hi))).length (u64s ((L.take k).filter (fun x => decide (lo ≤ x) && decide (x ≤ hi)))) ∧ Below (w1.heap.size + 1) (w1.alloc (.cells #[.int .u64 lo, .int .u64 hi] 63)) wr) (fun j _ _ => m - (intOf j).toNat)
  case atStart => exact ⟨0, by omega, rfl, by simpa using World.ownsRow_nil _ _ _ _, Below.refl _ _⟩
  case round =>
    obtain ⟨k, hk, rfl, hown, hb⟩ := hrel
    by_cases hlt : k < m
    · obtain ⟨b, off, rfl, hbl, hc⟩ := hq4 (by omega)
      have hbw := hb1.size
      have hcell : wr.cell? ⟨b, off + k, none⟩ = some (.int .u64 (L[k]?.getD 0)) := by
        rw [hb.cell (p := ⟨b, off + k, none⟩) (by show b < _; omega), ((Below.refl _ w1).alloc (Nat.le_refl _) _).cell (p := ⟨b, off + k, none⟩) (by show b < _; omega), hb1.cell (p := ⟨b, off + k, none⟩) hbl]
        exact hc k hlt
      have hcl : wr.cell? ⟨w1.heap.size, 0, none⟩ = some (.int .u64 lo) := by
        rw [hb.cell (p := ⟨w1.heap.size, 0, none⟩) (by show w1.heap.size < _; omega), cell_at]; rfl
      have hch : wr.cell? ⟨w1.heap.size, 1, none⟩ = some (.int .u64 hi) := by
        rw [hb.cell (p := ⟨w1.heap.size, 1, none⟩) (by show w1.heap.size < _; omega), cell_at]; rfl
      have hsz : w1.heap.size + 1 ≤ wr.heap.size := by have := hb.size; simpa using this
      obtain ⟨y0, y1⟩ := HQ3.out k hlt
      have HFk := hid (HF.out k hlt)
      have hl1 := HL.out (fun x => decide (lo ≤ x) && decide (x ≤ hi)) k
      have HO := hid hown
      clear hc hq4 HQ3 HF HL HT hown hu
      generalize (L.take k).filter (fun x => decide (lo ≤ x) && decide (x ≤ hi)) = A at *
      generalize L[k]?.getD 0 = y at *
      by_cases c1 : lo ≤ y
      · by_cases c2 : y ≤ hi
        · have HX : Hid ((L.take (k + 1)).filter (fun x => decide (lo ≤ x) && decide (x ≤ hi)) = A ++ [y]) := by show _ = _; rw [HFk.out]; simp [c1, c2]
          clear HFk
          go_wp2_with (first | (at_builtin; refine wpList_append_us rfl _ _ 22 rfl (w1.heap.size + 1) 23 i0 Tryz.underlying22 hi0 hz0 hz1 hz2 _ _ A rfl (HO.out.alloc _) _ [y] rfl (Us.one _ _ _ (by omega) (by omega)) (by simp only [List.length_cons, List.length_nil]; omega) (by simp; omega) ?_; intro v' w2 hown2 hgrow2))
          have hb2 : Below (w1.heap.size + 1) (w1.alloc (.cells #[.int .u64 lo, .int .u64 hi] 63)) w2 := (hb.alloc hsz _).grown hgrow2 (by simp; omega) (fun q hq => (HO.out.lt q hq).1)
          clear hcl hch hcell
          go_wp2
          go_roundw
          case rel => exact ⟨k + 1, by omega, by go_num, by rw [HX.out, List.length_append]; exact hown2, hb2⟩
          case measure => simp [intOf]; omega
        · have HX : Hid ((L.take (k + 1)).filter (fun x => decide (lo ≤ x) && decide (x ≤ hi)) = A) := by show _ = _; rw [HFk.out]; simp [c2]
          clear HFk
          go_wp2
          go_roundw
          case rel => exact ⟨k + 1, by omega, by go_num, by rw [HX.out]; exact HO.out, hb⟩
          case measure => simp [intOf]; omega
      · have HX : Hid ((L.take (k + 1)).filter (fun x => decide (lo ≤ x) && decide (x ≤ hi)) = A) := by show _ = _; rw [HFk.out]; simp [c1]
        clear HFk
        go_wp2
        go_roundw
        case rel => exact ⟨k + 1, by omega, by go_num, by rw [HX.out]; exact HO.out, hb⟩
        case measure => simp [intOf]; omega
    · obtain rfl : k = m := by omega
      rw [HT.out] at hown
      have HO := hid hown
      have hb0 : Below w.heap.size w wr := (hb1.alloc hb1.size _).trans (hb.mono (by have := hb1.size; omega))
      clear hown HQ3 HF HL hq4
      go_wp2
      go_ret2
      exact ⟨_, rfl, own_lower HO.out (by have := hb1.size; omega), hb0⟩
set_option maxRecDepth 100000 in
set_option maxHeartbeats 1000000 in
theorem rbel_no (h : Int) (L : List Int) (v : Value) (n : Int) (w : World) (hu : Us w v L) (h0 : 0 ≤ n) (h1 : n ≤ 18446744073709551615) (hE : M.belE h L n ≠ 0) :
    Calls Tryz.prog 80 #[.int .i64 h, v, .int .u64 n] w fun e w' => e = .returned (.tuple #[.slice none 0 0, .int .i64 1]) ∧ Below w.heap.size w w' := by
  cases hk : M.okB h n
  · have e2 : M.eChk h n = 1 := M.eChk_nok (by rw [hk]; simp)
    clear hE hk
    go_enter Tryz.func80, Tryz.ntmps80
    go_wp2_with (first | (go_at_call 81; refine (rleaves_any _ _ _ (by omega) (by omega)).mono ?_; rintro e w1 ⟨rfl, hb1⟩) | (go_at_call 103; refine (rset_any _ L _ _ ((hu.below hb1).alloc _)).mono ?_; rintro e w' ⟨rfl, hw⟩; subst w'))
    go_ret2
    exact ⟨rfl, hb1.alloc hb1.size _⟩
  · have e2 : M.eChk h n = 0 := M.eChk_ok hk
    have e1 : M.setE h L = 1 := by
      refine M.setE_no ?_
      cases hs : M.setB h L
      · rfl
      · exact absurd (by unfold M.belE; rw [hs, hk]; rfl) hE
    clear hE hk
    go_enter Tryz.func80, Tryz.ntmps80
    go_wp2_with (first | (go_at_call 81; refine (rleaves_any _ _ _ (by omega) (by omega)).mono ?_; rintro e w1 ⟨rfl, hb1⟩) | (go_at_call 103; refine (rset_any _ L _ _ ((hu.below hb1).alloc _)).mono ?_; rintro e w' ⟨rfl, hw⟩; subst w'))
    go_ret2
    exact ⟨rfl, hb1.alloc hb1.size _⟩
end Go.Proofs.YtmicgojojkkkhaaGreat
