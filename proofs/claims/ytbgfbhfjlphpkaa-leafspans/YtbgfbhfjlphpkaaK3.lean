/-
  What the document's own answers last, Gaps and Many of layer 2 come to. Conditions: the slices hold numbers that fit.
-/
import Derived.Test.YtbgfbhfjlphpkaaK2
namespace Go.Proofs.Ytbgfbhfjlphpkaa
open Go.RowKit
set_option maxHeartbeats 400000 in
theorem rlast_any (h : Int) (w : World) :
    Calls Try.prog 37 #[.int .i64 h] w fun e w' => e = .returned (.int .u64 (M.lastV h)) ∧ Below w.heap.size w w' := by
  have e1 : M.highV h 1 = M.lastV h := M.highV_one h
  have e3 := M.lowV_one h
  go_enter Try.func37, Try.ntmps37
  go_wp2_with (first | (go_at_call 35; refine (rleaves_any _ _ _ (by omega) (by omega)).mono ?_; rintro e w1 ⟨rfl, hb1⟩))
  go_ret
  exact ⟨rfl, hb1.alloc hb1.size _⟩
theorem own_kept2 {w w' : World} {base : Nat} {e : TypeId} {size : Nat} {v : Value} {n : Nat} {xs : List Value} (h : w.ownsRow base e size v n xs) (hb : Below w.heap.size w w') : w'.ownsRow base e size v n xs := own_kept h hb
set_option maxRecDepth 100000 in
set_option maxHeartbeats 1000000 in
theorem rgaps_yes (h : Int) (L : List Int) (v : Value) (w : World) (hu : Us w v L) (hs : M.setB h L = true) :
    Calls Try.prog 22 #[.int .i64 h, v] w fun e w' => ∃ v', e = .returned (.tuple #[v', .int .i64 0]) ∧ w'.ownsRow w.heap.size 41 2 v' (M.gapsL 0 (M.p2 h - 1) L).length (spanC (M.gapsL 0 (M.p2 h - 1) L)) ∧ Below w.heap.size w w' := by
  have e1 := M.setE_yes hs
  obtain ⟨hh1, hh2, hlen, hrise, _, _⟩ := M.set_of hs
  have e2 : M.lastV h = M.p2 h - 1 := by unfold M.lastV; rw [M.ht_mk hh1 hh2]; rfl
  have hp1 := M.p2_pos h
  have hp2 := M.p2_32 hh2
  have hgl := gaps_length_le L 0 (M.p2 h - 1)
  obtain ⟨hsrt, hbd⟩ := M.rise_of hrise
  obtain ⟨i0, hi, hz0, hz1, hz2⟩ := info_parts Try.infoSpan
  have hu0 := hu
  obtain ⟨ao, cap, rfl, hq1, hq2, hq3, hq4⟩ := hu0
  have HB : Hid (∀ k, k < L.length → 0 ≤ L[k]?.getD 0 ∧ L[k]?.getD 0 ≤ M.p2 h - 1) := fun k hk => getD_mem hbd k hk
  have HD : Hid (∀ k, k < L.length → L.drop k = L[k]?.getD 0 :: L.drop (k + 1)) := fun k hk => drop_getD k hk
  have l0 : 0 ≤ M.p2 h - 1 := by omega
  have l1 : M.p2 h - 1 ≤ 4294967295 := by omega
  have T1 := hid trivial
  have T2 := hid trivial
  generalize M.p2 h - 1 = last at *
  generalize hm : L.length = m at *
  have Hm := hid hm
  clear hq3 hs hp1 hp2 hrise hsrt hbd hm
  go_enter Try.func22, Try.ntmps22
  go_wp2_with (first | (go_at_call 18; refine (rset_any _ L _ _ hu).mono ?_; rintro e w' ⟨rfl, hw⟩; subst w'))
  go_loopw [16, 6, 7] (fun i t u wr => ∃ (k : Nat) (least : Int) (pre : List (Int × Int)), k ≤ m ∧ i = .int .i64 k ∧ u = .int .u64 least ∧ 0 ≤ least ∧ least ≤ 4294967296 ∧ M.gapsL 0 last L = pre ++ M.gapsL least last (L.drop k) ∧ wr.ownsRow w.heap.size 41 2 t pre.length (spanC pre) ∧ Below w.heap.size w wr) (fun i _ _ _ => m - (intOf i).toNat)
  case atStart => exact ⟨0, 0, [], by omega, rfl, rfl, by omega, by omega, by rw [List.drop_zero]; rfl, World.ownsRow_nil _ _ _ _, Below.refl _ _⟩
  case round =>
    obtain ⟨k, least, pre, hk, rfl, rfl, hx0, hx1, hG, hown, hb⟩ := hrel
    have hpl : pre.length ≤ 2000 := by
      have := congrArg List.length hG
      rw [List.length_append] at this
      omega
    by_cases hlt : k < m
    · obtain ⟨b, off, rfl, hbl, hc⟩ := hq4 (by omega)
      have hcell := (hb.cell (p := ⟨b, off + k, none⟩) hbl).trans (hc k hlt)
      obtain ⟨y0, y1⟩ := HB.out k hlt
      rw [HD.out k hlt] at hG
      have HO := hid hown
      clear hc hq4 HB HD hown T1 T2
      generalize L[k]?.getD 0 = y at *
      by_cases c1 : least < y
      · have HX : Hid (M.gapsL 0 last L = (pre ++ [(least, y - 1)]) ++ M.gapsL (y + 1) last (L.drop (k + 1))) := by
          show _ = _; rw [hG, M.gapsL, if_pos c1]; simp
        clear hG
        go_wp2_with (first | (at_builtin; refine wpList_append_ps rfl _ _ 33 rfl w.heap.size 41 i0 Try.underlying33 hi hz0 hz1 hz2 _ _ pre rfl (HO.out.alloc _) _ [(least, y - 1)] rfl (Ps.one _ _ _ _ (by omega)) (by simp only [List.length_cons, List.length_nil]; omega) (by have := hb.size; simp; omega) ?_; intro v' w2 hown2 hgrow2))
        have hb2 : Below w.heap.size w w2 := (hb.alloc hb.size _).grown hgrow2 (by have := hb.size; simp; omega) (fun q hq => (HO.out.lt q hq).1)
        clear hcell
        go_wp2
        go_roundw
        case rel => exact ⟨k + 1, y + 1, pre ++ [(least, y - 1)], by omega, by go_num, by go_num, by omega, by omega, HX.out, by rw [List.length_append]; exact hown2, hb2⟩
        case measure => simp [intOf]; omega
      · have HX : Hid (M.gapsL 0 last L = pre ++ M.gapsL (y + 1) last (L.drop (k + 1))) := by
          show _ = _; rw [hG, M.gapsL, if_neg c1]; rfl
        clear hG
        go_wp2
        go_roundw
        case rel => exact ⟨k + 1, y + 1, pre, by omega, by go_num, by go_num, by omega, by omega, HX.out, HO.out, hb⟩
        case measure => simp [intOf]; omega
    · obtain rfl : k = m := by omega
      rw [← Hm.out, List.drop_length] at hG
      have HO := hid hown
      clear hown HB HD hq4
      by_cases c1 : least ≤ last
      · have HX : Hid (M.gapsL 0 last L = pre ++ [(least, last)]) := by
          show _ = _; rw [hG, M.gapsL, if_pos c1]
        clear hG
        go_wp2_with (first | (go_at_call 37; clear T1; refine (rlast_any _ _).mono ?_; rintro e w3 ⟨rfl, hb3⟩; have HO3 := hid (own_kept2 HO.out hb3)) | (go_at_call 37; clear T2; refine (rlast_any _ _).mono ?_; rintro e w4 ⟨rfl, hb4⟩; have HO4 := hid (own_kept2 HO3.out hb4); have hbw4 := below_trans (below_trans hb hb3) hb4) | (at_builtin; refine wpList_append_ps rfl _ _ 33 rfl w.heap.size 41 i0 Try.underlying33 hi hz0 hz1 hz2 _ _ pre rfl (HO4.out.alloc _) _ [(least, last)] rfl (Ps.one _ _ _ _ (by omega)) (by simp only [List.length_cons, List.length_nil]; omega) (by have := hbw4.size; simp; omega) ?_; intro v' w5 hown5 hgrow5))
        have hb5 : Below w.heap.size w w5 := (hbw4.alloc hbw4.size _).grown hgrow5 (by have := hbw4.size; simp; omega) (fun q hq => (HO4.out.lt q hq).1)
        have HO5 : Hid (w5.ownsRow w.heap.size 41 2 v' (M.gapsL 0 last L).length (spanC (M.gapsL 0 last L))) := by
          show World.ownsRow _ _ _ _ _ _ _
          rw [HX.out, List.length_append]; exact hown5
        clear hown5 hgrow5
        go_wp2
        go_ret2
        exact ⟨_, rfl, HO5.out, hb5⟩
      · have HX : Hid (M.gapsL 0 last L = pre) := by
          show _ = _; rw [hG, M.gapsL, if_neg c1]; simp
        clear hG
        go_wp2_with (first | (go_at_call 37; clear T1; refine (rlast_any _ _).mono ?_; rintro e w3 ⟨rfl, hb3⟩; have HO3 := hid (own_kept2 HO.out hb3)))
        go_ret2
        exact ⟨_, rfl, by rw [HX.out]; exact HO3.out, below_trans hb hb3⟩
set_option maxHeartbeats 400000 in
theorem rgaps_no (h : Int) (L : List Int) (v : Value) (w : World) (hu : Us w v L) (hs : M.setB h L = false) :
    Calls Try.prog 22 #[.int .i64 h, v] w fun e w' => e = .returned (.tuple #[.slice none 0 0, .int .i64 1]) ∧ Below w.heap.size w w' := by
  have e1 := M.setE_no hs
  go_enter Try.func22, Try.ntmps22
  go_wp2_with (first | (go_at_call 18; refine (rset_any _ L _ _ hu).mono ?_; rintro e w' ⟨rfl, hw⟩; subst w'))
  go_ret2
  exact ⟨rfl, Below.refl _ _⟩
end Go.Proofs.Ytbgfbhfjlphpkaa
