/-
  What the document's own answers Same, With, Without and Below of layer 2 come to. Conditions: the slices hold numbers that fit.
-/
import Derived.Test.YtbgfbhfjlphpkaaG1
namespace Go.Proofs.Ytbgfbhfjlphpkaa
open Go.RowKit
set_option maxRecDepth 100000 in
set_option maxHeartbeats 400000 in
theorem same_yes (L : List Int) (v1 v2 : Value) (w : World) (u1 : Us w v1 L) (u2 : Us w v2 L) :
    Calls Try.prog 16 #[v1, v2] w fun e w' => e = .returned (.bool true) ∧ Below w.heap.size w w' := by
  obtain ⟨a1, c1, rfl, hp1, hp2, _, hp4⟩ := u1
  obtain ⟨a2, c2, rfl, hq1, hq2, _, hq4⟩ := u2
  have hm : L.length ≤ maxLen := by omega
  unfold maxLen at hm
  have HP4 := hid hp4
  have HQ4 := hid hq4
  clear hp4 hq4
  generalize hn : L.length = n at *
  go_enter Try.func16, Try.ntmps16
  go_wp2
  go_loopw [13] (fun i wr => ∃ k d : Nat, k ≤ n ∧ i = .int .i64 k ∧ wr = w.drewN d) (fun i _ => n - (intOf i).toNat)
  case atStart => exact ⟨0, 0, by omega, rfl, rfl⟩
  case round =>
    obtain ⟨k, d, hk, rfl, rfl⟩ := hrel
    by_cases hlt : k < n
    · obtain ⟨b1, o1, rfl, _, hc1⟩ := HP4.out (by omega)
      obtain ⟨b2, o2, rfl, _, hc2⟩ := HQ4.out (by omega)
      have x1 := hc1 k hlt
      have x2 := hc2 k hlt
      have y1 : (w.drewN d).cell? ⟨b1, o1 + k, none⟩ = some (.int .u64 (L[k]?.getD 0)) := hc1 k hlt
      have y2 : (w.drewN d).cell? ⟨b2, o2 + k, none⟩ = some (.int .u64 (L[k]?.getD 0)) := hc2 k hlt
      clear hc1 hc2 HP4 HQ4
      generalize L[k]?.getD 0 = y at *
      go_wp2
      go_quiet (fail)
      go_wp2
      go_roundw
      case rel => exact ⟨k + 1, d + nq, by omega, by go_num, rfl⟩
      case measure => simp [intOf]; omega
    · clear HP4 HQ4
      go_wp2
      go_ret
      exact ⟨rfl, below_drewN (Below.refl _ _) _⟩
theorem Us.one (w : World) (x : Int) (e : TypeId) (h0 : 0 ≤ x) (h1 : x ≤ 18446744073709551615) : Us (w.alloc (.cells #[.int .u64 x] e)) (.slice (some ⟨w.heap.size, 0, none⟩) 1 1) [x] := by
  refine ⟨_, _, rfl, by simp, by unfold maxLen; omega, by simp; omega, fun _ => ⟨w.heap.size, 0, rfl, by simp, fun j hj => ?_⟩⟩
  match j, hj with
  | 0, _ => rw [Nat.zero_add, cell_at]; rfl
theorem filter_take {L : List Int} (f : Int → Bool) (k : Nat) (hk : k < L.length) : (L.take (k + 1)).filter f = (L.take k).filter f ++ (if f (L[k]?.getD 0) then [L[k]?.getD 0] else []) := by
  rw [take_getD k hk, List.filter_append]
  congr 1
  by_cases h : f (L[k]?.getD 0) = true
  · rw [if_pos h, List.filter_cons_of_pos h]; rfl
  · rw [if_neg h, List.filter_cons_of_neg h]; rfl
theorem filter_take_le {L : List Int} (f : Int → Bool) (k : Nat) : ((L.take k).filter f).length ≤ L.length :=
  Nat.le_trans (List.length_filter_le _ _) (by rw [List.length_take]; omega)
set_option maxRecDepth 100000 in
set_option maxHeartbeats 1000000 in
theorem rout_yes (h : Int) (L : List Int) (v : Value) (i : Int) (w : World) (hu : Us w v L) (h0 : 0 ≤ i) (h1 : i ≤ 18446744073709551615) (hE : M.outE h L i = 0) :
    Calls Try.prog 15 #[.int .i64 h, v, .int .u64 i] w fun e w' => ∃ v', e = .returned (.tuple #[v', .int .i64 0]) ∧ w'.ownsRow w.heap.size 23 1 v' (M.outL L i).length (u64s (M.outL L i)) ∧ Below w.heap.size w w' := by
  obtain ⟨f0, f3', f1, f2, f5, _⟩ := M.outE_zero hE
  have hlen := (M.set_of f5).2.2.1
  obtain ⟨i0, hi, hz0, hz1, hz2⟩ := info_parts Try.infoU64
  have hu0 := hu
  obtain ⟨ao, cap, rfl, hq1, hq2, hq3, hq4⟩ := hu0
  have HQ3 : Hid (∀ k, k < L.length → 0 ≤ L[k]?.getD 0 ∧ L[k]?.getD 0 ≤ 18446744073709551615) := fun k hk => getD_mem hq3 k hk
  have HF : Hid (∀ k, k < L.length → (L.take (k + 1)).filter (fun x => decide (x ≠ i)) = (L.take k).filter (fun x => decide (x ≠ i)) ++ (if decide (L[k]?.getD 0 ≠ i) then [L[k]?.getD 0] else [])) := fun k hk => filter_take _ k hk
  have HL : Hid (∀ k, ((L.take k).filter (fun x => decide (x ≠ i))).length ≤ L.length) := fun k => filter_take_le _ k
  have HT : Hid (L.take L.length = L) := List.take_length
  clear hE f3' f2 f5 hq3
  unfold M.outL
  generalize hn : L.length = n at *
  go_enter Try.func15, Try.ntmps15
  go_wp2_with (first | (go_at_call 11; refine (rhas_any _ L _ _ _ hu (by omega) (by omega)).mono ?_; rintro e w' ⟨rfl, hw⟩; subst w'))
  go_loopw [27, 10] (fun j t wr => ∃ k : Nat, k ≤ n ∧ j = .int .i64 k ∧ wr.ownsRow w.heap.size 23 1 t ((L.take k).filter (fun x => decide (x ≠ i))).length (u64s ((L.take k).filter (fun x => decide (x ≠ i)))) ∧ Below w.heap.size w wr) (fun j _ _ => n - (intOf j).toNat)
  case atStart => exact ⟨0, by omega, rfl, by simpa using World.ownsRow_nil _ _ _ _, Below.refl _ _⟩
  case round =>
    obtain ⟨k, hk, rfl, hown, hb⟩ := hrel
    by_cases hlt : k < n
    · obtain ⟨b, off, rfl, hbl, hc⟩ := hq4 (by omega)
      have hcell : wr.cell? ⟨b, off + k, none⟩ = some (.int .u64 (L[k]?.getD 0)) := (hb.cell (p := ⟨b, off + k, none⟩) hbl).trans (hc k hlt)
      obtain ⟨y0, y1⟩ := HQ3.out k hlt
      have HFk := hid (HF.out k hlt)
      have hl1 := HL.out k
      have HO := hid hown
      clear hc hq4 HQ3 HF HL HT hown hu
      generalize (L.take k).filter (fun x => decide (x ≠ i)) = A at *
      generalize L[k]?.getD 0 = y at *
      by_cases c1 : y = i
      · have g1 : (y != i) = false := by rw [bne_eq_false_iff_eq]; exact c1
        have HX : Hid ((L.take (k + 1)).filter (fun x => decide (x ≠ i)) = A) := by show _ = _; rw [HFk.out]; simp [c1]
        clear HFk
        go_wp2
        go_roundw
        case rel => exact ⟨k + 1, by omega, by go_num, by rw [HX.out]; exact HO.out, hb⟩
        case measure => simp [intOf]; omega
      · have g1 : (y != i) = true := by rw [bne_iff_ne]; exact c1
        have HX : Hid ((L.take (k + 1)).filter (fun x => decide (x ≠ i)) = A ++ [y]) := by show _ = _; rw [HFk.out]; simp [c1]
        clear HFk
        go_wp2_with (first | (at_builtin; refine wpList_append_us rfl _ _ 22 rfl w.heap.size 23 i0 Try.underlying22 hi hz0 hz1 hz2 _ _ A rfl (HO.out.alloc _) _ [y] rfl (Us.one _ _ _ (by omega) (by omega)) (by simp only [List.length_cons, List.length_nil]; omega) (by have := hb.size; simp; omega) ?_; intro v' w2 hown2 hgrow2))
        have hb2 : Below w.heap.size w w2 := (hb.alloc hb.size _).grown hgrow2 (by have := hb.size; simp; omega) (fun q hq => (HO.out.lt q hq).1)
        go_wp2
        go_roundw
        case rel => exact ⟨k + 1, by omega, by go_num, by rw [HX.out, List.length_append]; exact hown2, hb2⟩
        case measure => simp [intOf]; omega
    · obtain rfl : k = n := by omega
      rw [HT.out] at hown
      have HO := hid hown
      clear hown HQ3 HF HL hq4
      go_wp2
      go_ret2
      exact ⟨_, rfl, HO.out, hb⟩
set_option maxHeartbeats 400000 in
theorem rout_no (h : Int) (L : List Int) (v : Value) (i : Int) (w : World) (hu : Us w v L) (h0 : 0 ≤ i) (h1 : i ≤ 18446744073709551615) (hE : M.outE h L i ≠ 0) :
    Calls Try.prog 15 #[.int .i64 h, v, .int .u64 i] w fun e w' => e = .returned (.tuple #[.slice none 0 0, .int .i64 (M.outE h L i)]) ∧ Below w.heap.size w w' := by
  by_cases hf : M.findE h L i = 0
  · cases hh : M.has L i
    · have e1 : M.outE h L i = 4 := by unfold M.outE; rw [if_pos hf, hh]; simp
      have e2 : M.hasV h L i = false := by unfold M.hasV; rw [hh]; simp
      rw [e1]
      clear hE e1
      go_enter Try.func15, Try.ntmps15
      go_wp2_with (first | (go_at_call 11; refine (rhas_any _ L _ _ _ hu (by omega) (by omega)).mono ?_; rintro e w' ⟨rfl, hw⟩; subst w'))
      go_ret2
      exact ⟨rfl, Below.refl _ _⟩
    · exact absurd (by unfold M.outE; rw [if_pos hf, hh]; simp) hE
  · have e1 : M.outE h L i = 1 := by unfold M.outE; rw [if_neg hf]
    have e2 : M.findE h L i = 1 := by
      unfold M.findE at hf ⊢
      cases hx : (M.setB h L && M.isB h i)
      · rfl
      · rw [hx] at hf; simp at hf
    rw [e1]
    clear hE e1 hf
    go_enter Try.func15, Try.ntmps15
    go_wp2_with (first | (go_at_call 11; refine (rhas_any _ L _ _ _ hu (by omega) (by omega)).mono ?_; rintro e w' ⟨rfl, hw⟩; subst w'))
    go_ret2
    exact ⟨rfl, Below.refl _ _⟩
theorem append3_left (A : List Int) (i : Int) (B : List Int) (y : Int) : A ++ [i] ++ (B ++ [y]) = (A ++ [i] ++ B) ++ [y] := by simp
set_option maxRecDepth 100000 in
set_option maxHeartbeats 1000000 in
theorem rwith_yes (h : Int) (L : List Int) (v : Value) (i : Int) (w : World) (hu : Us w v L) (h0 : 0 ≤ i) (h1 : i ≤ 18446744073709551615) (hE : M.withE h L i = 0) :
    Calls Try.prog 13 #[.int .i64 h, v, .int .u64 i] w fun e w' => ∃ v', e = .returned (.tuple #[v', .int .i64 0]) ∧ w'.ownsRow w.heap.size 23 1 v' (M.withL L i).length (u64s (M.withL L i)) ∧ Below w.heap.size w w' := by
  obtain ⟨f0, f3', f1, f2, f5, f3, _⟩ := M.withE_zero hE
  obtain ⟨i0, hi, hz0, hz1, hz2⟩ := info_parts Try.infoU64
  have hu0 := hu
  obtain ⟨ao, cap, rfl, hq1, hq2, hq3, hq4⟩ := hu0
  have HQ3 : Hid (∀ k, k < L.length → 0 ≤ L[k]?.getD 0 ∧ L[k]?.getD 0 ≤ 18446744073709551615) := fun k hk => getD_mem hq3 k hk
  have HF : Hid (∀ k, k < L.length → (L.take (k + 1)).filter (fun x => decide (x < i)) = (L.take k).filter (fun x => decide (x < i)) ++ (if decide (L[k]?.getD 0 < i) then [L[k]?.getD 0] else [])) := fun k hk => filter_take _ k hk
  have HG : Hid (∀ k, k < L.length → (L.take (k + 1)).filter (fun x => decide (i < x)) = (L.take k).filter (fun x => decide (i < x)) ++ (if decide (i < L[k]?.getD 0) then [L[k]?.getD 0] else [])) := fun k hk => filter_take _ k hk
  have HL : Hid (∀ f k, ((L.take k).filter f).length ≤ L.length) := fun f k => filter_take_le f k
  have HT : Hid (L.take L.length = L) := List.take_length
  clear hE f3' f2 f5 hq3
  unfold M.withL
  generalize hn : L.length = n at *
  have g6 : ((n : Int) == 1024) = false := by rw [beq_eq_false_iff_ne]; omega
  go_enter Try.func13, Try.ntmps13
  go_wp2_with (first | (go_at_call 11; refine (rhas_any _ L _ _ _ hu (by omega) (by omega)).mono ?_; rintro e w' ⟨rfl, hw⟩; subst w'))
  go_loopw [31, 10] (fun j t wr => ∃ k : Nat, k ≤ n ∧ j = .int .i64 k ∧ wr.ownsRow w.heap.size 23 1 t ((L.take k).filter (fun x => decide (x < i))).length (u64s ((L.take k).filter (fun x => decide (x < i)))) ∧ Below w.heap.size w wr) (fun j _ _ => n - (intOf j).toNat)
  case atStart => exact ⟨0, by omega, rfl, by simpa using World.ownsRow_nil _ _ _ _, Below.refl _ _⟩
  case round =>
    obtain ⟨k, hk, rfl, hown, hb⟩ := hrel
    by_cases hlt : k < n
    · obtain ⟨b, off, rfl, hbl, hc⟩ := hq4 (by omega)
      have hcell : wr.cell? ⟨b, off + k, none⟩ = some (.int .u64 (L[k]?.getD 0)) := (hb.cell (p := ⟨b, off + k, none⟩) hbl).trans (hc k hlt)
      obtain ⟨y0, y1⟩ := HQ3.out k hlt
      have HFk := hid (HF.out k hlt)
      have hl1 := HL.out (fun x => decide (x < i)) k
      have HO := hid hown
      clear hc hq4 HQ3 HF HG HL HT hown hu
      generalize (L.take k).filter (fun x => decide (x < i)) = A at *
      generalize L[k]?.getD 0 = y at *
      by_cases c1 : y < i
      · have HX : Hid ((L.take (k + 1)).filter (fun x => decide (x < i)) = A ++ [y]) := by show _ = _; rw [HFk.out]; simp [c1]
        clear HFk
        go_wp2_with (first | (at_builtin; refine wpList_append_us rfl _ _ 22 rfl w.heap.size 23 i0 Try.underlying22 hi hz0 hz1 hz2 _ _ A rfl (HO.out.alloc _) _ [y] rfl (Us.one _ _ _ (by omega) (by omega)) (by simp only [List.length_cons, List.length_nil]; omega) (by have := hb.size; simp; omega) ?_; intro v' w2 hown2 hgrow2))
        have hb2 : Below w.heap.size w w2 := (hb.alloc hb.size _).grown hgrow2 (by have := hb.size; simp; omega) (fun q hq => (HO.out.lt q hq).1)
        go_wp2
        go_roundw
        case rel => exact ⟨k + 1, by omega, by go_num, by rw [HX.out, List.length_append]; exact hown2, hb2⟩
        case measure => simp [intOf]; omega
      · have HX : Hid ((L.take (k + 1)).filter (fun x => decide (x < i)) = A) := by show _ = _; rw [HFk.out]; simp [c1]
        clear HFk
        go_wp2
        go_roundw
        case rel => exact ⟨k + 1, by omega, by go_num, by rw [HX.out]; exact HO.out, hb⟩
        case measure => simp [intOf]; omega
    · obtain rfl : k = n := by omega
      have hl1 := HL.out (fun x => decide (x < i)) k
      rw [HT.out] at hown hl1
      have HO := hid hown
      clear hown HF
      generalize hA : L.filter (fun x => decide (x < i)) = A at HO hl1
      have HA := hid hA
      clear hA
      go_wp2_with (first | (at_builtin; refine wpList_append_us rfl _ _ 22 rfl w.heap.size 23 i0 Try.underlying22 hi hz0 hz1 hz2 _ _ A rfl (HO.out.alloc _) _ [i] rfl (Us.one _ _ _ (by omega) (by omega)) (by simp only [List.length_cons, List.length_nil]; omega) (by have := hb.size; simp; omega) ?_; intro v' w2 hown2 hgrow2))
      have hb2 : Below w.heap.size w w2 := (hb.alloc hb.size _).grown hgrow2 (by have := hb.size; simp; omega) (fun q hq => (HO.out.lt q hq).1)
      clear HO hgrow2
      go_wp2
      go_loopw [49, 10] (fun j t wr => ∃ q : Nat, q ≤ k ∧ j = .int .i64 q ∧ wr.ownsRow w.heap.size 23 1 t (A ++ [i] ++ (L.take q).filter (fun x => decide (i < x))).length (u64s (A ++ [i] ++ (L.take q).filter (fun x => decide (i < x)))) ∧ Below w.heap.size w wr) (fun j _ _ => k - (intOf j).toNat)
      case atStart => exact ⟨0, by omega, rfl, by rw [List.take_zero, List.filter_nil, List.append_nil, List.length_append]; exact hown2, hb2⟩
      case round =>
        clear hown2 hb2 hb
        obtain ⟨q, hq, rfl, hown, hb⟩ := hrel
        by_cases hlt : q < k
        · obtain ⟨b, off, rfl, hbl, hc⟩ := hq4 (by omega)
          have hcell : wr.cell? ⟨b, off + q, none⟩ = some (.int .u64 (L[q]?.getD 0)) := (hb.cell (p := ⟨b, off + q, none⟩) hbl).trans (hc q hlt)
          obtain ⟨y0, y1⟩ := HQ3.out q hlt
          have HFk := hid (HG.out q hlt)
          have hl2 := HL.out (fun x => decide (i < x)) q
          have hl3 : (A ++ [i] ++ (L.take q).filter (fun x => decide (i < x))).length ≤ 5000 := by simp only [List.length_append, List.length_cons, List.length_nil]; omega
          have HO := hid hown
          clear hc hq4 HQ3 HG HL HT hown hu
          generalize (L.take q).filter (fun x => decide (i < x)) = C at *
          generalize L[q]?.getD 0 = y at *
          by_cases c1 : i < y
          · have HX : Hid (A ++ [i] ++ (L.take (q + 1)).filter (fun x => decide (i < x)) = (A ++ [i] ++ C) ++ [y]) := by show _ = _; rw [HFk.out, ← append3_left]; simp [c1]
            clear HFk
            generalize A ++ [i] ++ C = A' at *
            go_wp2_with (first | (at_builtin; refine wpList_append_us rfl _ _ 22 rfl w.heap.size 23 i0 Try.underlying22 hi hz0 hz1 hz2 _ _ A' rfl (HO.out.alloc _) _ [y] rfl (Us.one _ _ _ (by omega) (by omega)) (by simp only [List.length_cons, List.length_nil]; omega) (by have := hb.size; simp; omega) ?_; intro v' w2 hown2 hgrow2))
            have hb2 : Below w.heap.size w w2 := (hb.alloc hb.size _).grown hgrow2 (by have := hb.size; simp; omega) (fun q hq => (HO.out.lt q hq).1)
            go_wp2
            go_roundw
            case rel => exact ⟨q + 1, by omega, by go_num, by rw [HX.out, List.length_append]; exact hown2, hb2⟩
            case measure => simp [intOf]; omega
          · have HX : Hid ((L.take (q + 1)).filter (fun x => decide (i < x)) = C) := by show _ = _; rw [HFk.out]; simp [c1]
            clear HFk
            go_wp2
            go_roundw
            case rel => exact ⟨q + 1, by omega, by go_num, by rw [HX.out]; exact HO.out, hb⟩
            case measure => simp [intOf]; omega
        · obtain rfl : q = k := by omega
          rw [HT.out, ← HA.out] at hown
          have HO := hid hown
          clear hown HQ3 HG HL hq4
          go_wp2
          go_ret2
          exact ⟨_, rfl, HO.out, hb⟩
set_option maxHeartbeats 1000000 in
theorem rwith_no (h : Int) (L : List Int) (v : Value) (i : Int) (w : World) (hu : Us w v L) (h0 : 0 ≤ i) (h1 : i ≤ 18446744073709551615) (hE : M.withE h L i ≠ 0) :
    Calls Try.prog 13 #[.int .i64 h, v, .int .u64 i] w fun e w' => e = .returned (.tuple #[.slice none 0 0, .int .i64 (M.withE h L i)]) ∧ Below w.heap.size w w' := by
  by_cases hf : M.findE h L i = 0
  · cases hh : M.has L i
    · by_cases h6 : L.length = 1024
      · have e1 : M.withE h L i = 6 := by unfold M.withE; rw [if_pos hf, hh]; simp [h6]
        have e2 : M.hasV h L i = false := by unfold M.hasV; rw [hh]; simp
        rw [e1]
        clear hE e1
        have hu0 := hu
        obtain ⟨ao, cap, rfl, _, _, _, _⟩ := hu0
        rw [h6] at hu ⊢
        go_enter Try.func13, Try.ntmps13
        go_wp2_with (first | (go_at_call 11; refine (rhas_any _ L _ _ _ hu (by omega) (by omega)).mono ?_; rintro e w' ⟨rfl, hw⟩; subst w'))
        go_ret2
        exact ⟨rfl, Below.refl _ _⟩
      · exact absurd (by unfold M.withE; rw [if_pos hf, hh]; simp [h6]) hE
    · have e1 : M.withE h L i = 5 := by unfold M.withE; rw [if_pos hf, hh]; simp
      have e2 : M.hasV h L i = true := by unfold M.hasV; rw [hh, hf]; simp
      rw [e1]
      clear hE e1
      go_enter Try.func13, Try.ntmps13
      go_wp2_with (first | (go_at_call 11; refine (rhas_any _ L _ _ _ hu (by omega) (by omega)).mono ?_; rintro e w' ⟨rfl, hw⟩; subst w'))
      go_ret2
      exact ⟨rfl, Below.refl _ _⟩
  · have e1 : M.withE h L i = 1 := by unfold M.withE; rw [if_neg hf]
    have e2 : M.findE h L i = 1 := by
      unfold M.findE at hf ⊢
      cases hx : (M.setB h L && M.isB h i)
      · rfl
      · rw [hx] at hf; simp at hf
    rw [e1]
    clear hE e1 hf
    go_enter Try.func13, Try.ntmps13
    go_wp2_with (first | (go_at_call 11; refine (rhas_any _ L _ _ _ hu (by omega) (by omega)).mono ?_; rintro e w' ⟨rfl, hw⟩; subst w'))
    go_ret2
    exact ⟨rfl, Below.refl _ _⟩
end Go.Proofs.Ytbgfbhfjlphpkaa
