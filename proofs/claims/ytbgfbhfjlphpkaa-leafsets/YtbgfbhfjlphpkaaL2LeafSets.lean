/-
  The law LeafSets returns true at every input. Conditions: the numbers fit their kinds.
-/
import Derived.Test.YtbgfbhfjlphpkaaFU
namespace Go.Proofs.Ytbgfbhfjlphpkaa
open Go.RowKit
set_option maxRecDepth 100000 in
set_option maxHeartbeats 2000000 in
theorem leafSets_walk (h : Int) (L : List Int) (v : Value) (i : Int) (w : World) (hu : Us w v L) (h0 : 0 ≤ i) (h1 : i ≤ 18446744073709551615) :
    Calls Try.prog 3 #[.int .i64 h, v, .int .u64 i] w fun e w' => e = .returned (.bool true) ∧ Below w.heap.size w w' := by
  have hu' := hu
  obtain ⟨ao, cap, rfl, hq1, hq2, _, _⟩ := hu'
  have hm : L.length ≤ maxLen := by omega
  unfold maxLen at hm
  obtain ⟨hFX, hlX⟩ := M.withV_fits (h := h) (L := L) h0
  obtain ⟨hFP, hlP⟩ := M.outV_fits (h := h) (L := L) (i := i)
  generalize hX : M.withV h L i = X at *
  generalize hP : M.outV h L i = P at *
  generalize hE : M.withE h L i = ew at *
  generalize hF : M.outE h L i = eo at *
  have HX := hid hX
  have HP := hid hP
  have HE := hid hE
  have HF := hid hF
  have HFX := hid (fits_big hFX)
  have HFP := hid (fits_big hFP)
  have HGX := hid hFX
  have HGP := hid hFP
  clear hX hP hE hF hFX hFP
  generalize hn : L.length = n at *
  have T1 := hid trivial
  have T2 := hid trivial
  have hcase : (n ≤ 60 ∨ (60 < n ∧ 1024 ≤ n ∧ n ≤ 1030)) ∨ ((60 < n ∧ n < 1024) ∨ 1030 < n) := by omega
  rcases hcase with hcase | hcase
  · obtain ⟨i0, hi, hz0, hz1, hz2⟩ := info_parts Try.infoU64
    have hn1030 : n ≤ 1030 := by omega
    rcases hcase with hl | ⟨hl1, hl2, hl3⟩
    all_goals
      go_enter Try.func3, Try.ntmps3
      go_wp2_with (first | (go_at_call 9; refine (live2_any _).mono ?_; rintro e w1 ⟨rfl, hb1⟩; have hu1 := hu.below hb1) | (at_builtin; refine wpList_append_us rfl _ _ 22 rfl w1.heap.size 23 i0 Try.underlying22 hi hz0 hz1 hz2 _ _ [] rfl (World.ownsRow_nil _ _ _ _) _ L rfl hu1 (by omega) (Nat.le_refl _) ?_; intro vw w2 hown2 hgrow2; have hb2 : Below w1.heap.size w1 w2 := (Below.refl _ w1).grown hgrow2 (Nat.le_refl _) (fun q hq => by cases hq); have hu2 := hu1.below hb2; rw [List.nil_append] at hown2; have hw2 := Us.of_own hown2 hu.fits; clear hown2 hgrow2) | (go_at_call 10; refine (has_any h L _ i _ hu2 h0 h1).mono ?_; rintro e w3 ⟨rfl, hb3⟩; have hu3 := hu2.below hb3; have hw3 := hw2.below hb3) | (go_at_call 11; refine (rhas_any h L _ i _ hu3 h0 h1).mono ?_; rintro e w' ⟨rfl, hw⟩; subst w') | (go_at_call 12; refine (with_any h L _ i _ hu3 h0 h1).mono ?_; rw [HX.out, HE.out]; rintro e w4 ⟨vx, rfl, howx, hb4⟩; have hu4 := hu3.below hb4; have hv := own_view howx; obtain ⟨aox, capx, rfl, _⟩ := hv; have hXl := hid howx.1; generalize X.length = nx at *; have HLX := hid howx.lt) | (go_at_call 13; refine (rwith_any h L _ i _ hu4 h0 h1).mono ?_; rw [HX.out, HE.out]; rintro e w5 ⟨vy, rfl, howy, hb5⟩; have hu5 := hu4.below hb5; have howx5 := own_kept howx hb5; have uy5 := Us.of_own howy HFX.out; clear howy howx) | (go_at_call 14; refine (out_any h L _ i _ hu5 h0 h1).mono ?_; rw [HP.out, HF.out]; rintro e w6 ⟨vp, rfl, howp, hb6⟩; have hu6 := hu5.below hb6; have howx6 := own_kept howx5 hb6; have uy6 := uy5.below hb6; have hv := own_view howp; obtain ⟨aop, capp, rfl, _⟩ := hv; generalize P.length = np at *; clear howx5 uy5) | (go_at_call 15; refine (rout_any h L _ i _ hu6 h0 h1).mono ?_; rw [HP.out, HF.out]; rintro e w7 ⟨vq, rfl, howq, hb7⟩; have hu7 := hu6.below hb7; have howx7 := own_kept howx6 hb7; have howp7 := own_kept howp hb7; have uy7 := uy6.below hb7; have uq7 := Us.of_own howq HFP.out; clear howx6 howp howq uy6) | (go_at_call 16; clear T1; refine (same_yes X _ _ _ (Us.of_own howx7 HFX.out) uy7).mono ?_; rintro e w8 ⟨rfl, hb8⟩; have hu8 := hu7.below hb8; have howx8 := own_kept howx7 hb8; have howp8 := own_kept howp7 hb8; have uq8 := uq7.below hb8; clear howx7 howp7 uq7 uy7) | (go_at_call 16; clear T2; refine (same_yes P _ _ _ (Us.of_own howp8 HFP.out) uq8).mono ?_; rintro e w9 ⟨rfl, hb9⟩; have hu9 := hu8.below hb9; have howx9 := own_kept howx8 hb9; have howp9 := own_kept howp8 hb9; clear howx8 howp8 uq8) | (go_at_call 17; refine (setCheck_any h L _ _ hu9).mono ?_; rintro e w10 ⟨rfl, hb10⟩; have hu10 := hu9.below hb10; have howx10 := own_kept howx9 hb10; have howp10 := own_kept howp9 hb10; clear howx9 howp9) | (go_at_call 18; refine (rset_any h L _ _ hu10).mono ?_; rintro e w' ⟨rfl, hw⟩; subst w'))
      have hb310 : Below w3.heap.size w3 w10 := below_trans (below_trans (below_trans (below_trans (below_trans (below_trans hb4 hb5) hb6) hb7) hb8) hb9) hb10
      have hsz45 := hb5.size
      have hsz34 := hb4.size
      have hxl : nx = X.length := by have := howx10.1; simpa using this.symm
      have hb03 : Below w.heap.size w w3 := below_trans (below_trans hb1 hb2) hb3
      clear hu4 hu5 hu6 hu7 hu8 hu9 hu10 hb4 hb5 hb6 hb7 hb8 hb9 hb10 hu2 hw2 hu1 hb1 hb2 hb3
      go_loopw [122] (fun j wr => ∃ (k : Nat) (Y : List Int), k ≤ nx ∧ j = .int .i64 k ∧ (∀ y ∈ Y, 0 ≤ y ∧ y ≤ 4294967296 + k) ∧ wr.ownsRow w3.heap.size 23 1 (.slice aox nx capx) nx (u64s Y) ∧ wr.ownsRow w5.heap.size 23 1 (.slice aop np capp) np (u64s P) ∧ Below w3.heap.size w3 wr) (fun j _ => nx - (intOf j).toNat)
      case atStart => exact ⟨0, X, by omega, rfl, fun y hy => by have := HGX.out y hy; omega, howx10, howp10, hb310⟩
      case round =>
        clear howx10 howp10 hb310
        obtain ⟨k, Y, hk, rfl, hY, howx, howp, hb⟩ := hrel
        by_cases hlt : k < nx
        · obtain ⟨g, rfl⟩ := own_some howx (by omega)
          have hyl : Y.length = nx := by have := howx.1; simpa using this
          have hcell := own_cell howx k hlt
          have hfr := howx.frozenAt k
          have hy := getD_mem hY k (by omega)
          have hst := howx.stored k (.int .u64 (Y[k]?.getD 0 + 1))
          rw [u64s_set] at hst
          have hne : some g ≠ Value.ownBlock (.slice aop np capp) := by
            intro e
            have h1 := (HLX.out g rfl).2
            have h2 := (howp.lt g e.symm).1
            omega
          have hpk := howp.kept hst.2 (.inr hne.symm)
          have hb2 := hb.grown hst.2 hb.size (fun q hq => by cases hq; exact (howx.lt g rfl).1)
          have HY := hid (set_fits (k := k) hY (y := Y[k]?.getD 0 + 1) (by omega) (by omega))
          have HST := hid hst.1
          have HPK := hid hpk
          have HB2 := hid hb2
          obtain ⟨y0, y1⟩ := hy
          clear hst hpk hb2 hY howx howp hne HLX hyl
          generalize Y[k]?.getD 0 = y at *
          go_wp2
          go_roundw
          case rel => exact ⟨k + 1, Y.set k (y + 1), by omega, by go_num, fun z hz => by have := HY.out z hz; omega, HST.out, HPK.out, HB2.out⟩
          case measure => simp [intOf]; omega
        · obtain rfl : k = nx := by omega
          have HOP := hid howp
          clear howx howp hY HLX
          go_wp2
          go_loopw [134] (fun j wr => ∃ (k : Nat) (Y : List Int), k ≤ np ∧ j = .int .i64 k ∧ (∀ y ∈ Y, 0 ≤ y ∧ y ≤ 4294967296 + k) ∧ wr.ownsRow w5.heap.size 23 1 (.slice aop np capp) np (u64s Y) ∧ Below w3.heap.size w3 wr) (fun j _ => np - (intOf j).toNat)
          case atStart => exact ⟨0, P, by omega, rfl, fun y hy => by have := HGP.out y hy; omega, HOP.out, hb⟩
          case round =>
            clear HOP hb
            obtain ⟨q, Y, hq, rfl, hY, howp, hb⟩ := hrel
            by_cases hlt : q < np
            · obtain ⟨g, rfl⟩ := own_some howp (by omega)
              have hyl : Y.length = np := by have := howp.1; simpa using this
              have hcell := own_cell howp q hlt
              have hfr := howp.frozenAt q
              have hy := getD_mem hY q (by omega)
              have hst := howp.stored q (.int .u64 (Y[q]?.getD 0 + 1))
              rw [u64s_set] at hst
              have hb2 := hb.grown hst.2 hb.size (fun r hr => by cases hr; have := (howp.lt g rfl).1; omega)
              have HY := hid (set_fits (k := q) hY (y := Y[q]?.getD 0 + 1) (by omega) (by omega))
              have HST := hid hst.1
              have HB2 := hid hb2
              obtain ⟨y0, y1⟩ := hy
              clear hst hb2 hY howp hyl
              generalize Y[q]?.getD 0 = y at *
              go_wp2
              go_roundw
              case rel => exact ⟨q + 1, Y.set q (y + 1), by omega, by go_num, fun z hz => by have := HY.out z hz; omega, HST.out, HB2.out⟩
              case measure => simp [intOf]; omega
            · obtain rfl : q = np := by omega
              clear howp hY
              go_wp2_with (first | (go_at_call 16; refine (same_yes L _ _ _ (hu3.below hb) (hw3.below hb)).mono ?_; rintro e w11 ⟨rfl, hb11⟩))
              go_ret
              exact ⟨rfl, below_trans (below_trans hb03 hb) hb11⟩
  · rcases hcase with ⟨hl1, hl2⟩ | hl
    · go_enter Try.func3, Try.ntmps3
      go_wp2_with (first | (go_at_call 9; refine (live2_any _).mono ?_; rintro e w1 ⟨rfl, hb1⟩; have hu1 := hu.below hb1))
      go_ret
      exact ⟨rfl, hb1⟩
    · have hl2 : ¬ (n < 1024) := by omega
      have hl3 : 60 < n := by omega
      go_enter Try.func3, Try.ntmps3
      go_wp2_with (first | (go_at_call 9; refine (live2_any _).mono ?_; rintro e w1 ⟨rfl, hb1⟩; have hu1 := hu.below hb1))
      go_ret
      exact ⟨rfl, hb1⟩
end Go.Proofs.Ytbgfbhfjlphpkaa
