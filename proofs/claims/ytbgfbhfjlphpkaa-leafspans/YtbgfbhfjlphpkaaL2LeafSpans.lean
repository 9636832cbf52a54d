/-
  The law LeafSpans returns true at every input. Conditions: the numbers fit their kinds.
-/
import Derived.Test.YtbgfbhfjlphpkaaFU
import Derived.Test.YtbgfbhfjlphpkaaK4
import Derived.Test.YtbgfbhfjlphpkaaGM
namespace Go.Proofs.Ytbgfbhfjlphpkaa
open Go.RowKit
theorem M.gapsV_yes {h : Int} {L : List Int} (hs : M.setB h L = true) : M.gapsV h L = M.gapsL 0 (M.p2 h - 1) L := by unfold M.gapsV; rw [hs]; rfl
theorem M.gapsV_no {h : Int} {L : List Int} (hs : M.setB h L = false) : M.gapsV h L = [] := by unfold M.gapsV; rw [hs]; rfl
theorem M.gapsV_fits {h : Int} {L : List Int} : ∀ x ∈ M.gapsV h L, 0 ≤ x.1 ∧ x.1 ≤ 18446744073709551615 ∧ 0 ≤ x.2 ∧ x.2 ≤ 18446744073709551615 := by
  cases hs : M.setB h L
  · rw [M.gapsV_no hs]; simp
  · rw [M.gapsV_yes hs]
    intro x hx
    have := (M.all_facts hs).2.2.2.2.2 x hx
    omega
theorem gaps_any (h : Int) (L : List Int) (v : Value) (w : World) (hu : Us w v L) :
    Calls Try.prog 21 #[.int .i64 h, v] w fun e w' => ∃ v', e = .returned (.tuple #[v', .int .i64 (M.setE h L)]) ∧ w'.ownsRow w.heap.size 41 2 v' (M.gapsV h L).length (spanC (M.gapsV h L)) ∧ Below w.heap.size w w' := by
  cases hs : M.setB h L
  · rw [M.gapsV_no hs, M.setE_no hs]; exact (gaps_no h L v w hu hs).mono fun e w' ⟨h1, h2⟩ => ⟨_, h1, World.ownsRow_nil _ _ _ _, h2⟩
  · rw [M.gapsV_yes hs, M.setE_yes hs]; exact gaps_yes h L v w hu hs
theorem rgaps_any (h : Int) (L : List Int) (v : Value) (w : World) (hu : Us w v L) :
    Calls Try.prog 22 #[.int .i64 h, v] w fun e w' => ∃ v', e = .returned (.tuple #[v', .int .i64 (M.setE h L)]) ∧ w'.ownsRow w.heap.size 41 2 v' (M.gapsV h L).length (spanC (M.gapsV h L)) ∧ Below w.heap.size w w' := by
  cases hs : M.setB h L
  · rw [M.gapsV_no hs, M.setE_no hs]; exact (rgaps_no h L v w hu hs).mono fun e w' ⟨h1, h2⟩ => ⟨_, h1, World.ownsRow_nil _ _ _ _, h2⟩
  · rw [M.gapsV_yes hs, M.setE_yes hs]; exact rgaps_yes h L v w hu hs
set_option maxRecDepth 100000 in
set_option maxHeartbeats 2000000 in
theorem leafSpans_walk (h : Int) (L : List Int) (v : Value) (n : Int) (S : List (Int × Int)) (vs : Value) (w : World) (hu : Us w v L) (h0 : 0 ≤ n) (h1 : n ≤ 18446744073709551615) (hsp : Ps w vs S) :
    Calls Try.prog 4 #[.int .i64 h, v, .int .u64 n, vs] w fun e w' => e = .returned (.bool true) ∧ Below w.heap.size w w' := by
  have hu' := hu
  obtain ⟨ao, cap, rfl, hq1, hq2, _, _⟩ := hu'
  have hsp' := hsp
  obtain ⟨aos, caps, rfl, hr1, hr2, _, _⟩ := hsp'
  have hm : L.length ≤ maxLen := by omega
  have hms : S.length ≤ maxLen := by omega
  unfold maxLen at hm hms
  obtain ⟨hFX, hlX⟩ := M.belV_fits (h := h) (L := L) (n := n)
  generalize hX : M.belV h L n = X at *
  generalize hE : M.belE h L n = ew at *
  generalize hG : M.gapsV h L = G at *
  have HX := hid hX
  have HE := hid hE
  have HG := hid hG
  have HFX := hid (fits_big hFX)
  have HFG : Hid (∀ x ∈ G, 0 ≤ x.1 ∧ x.1 ≤ 18446744073709551615 ∧ 0 ≤ x.2 ∧ x.2 ≤ 18446744073709551615) := by rw [← hG]; exact M.gapsV_fits
  have HGX := hid hFX
  clear hX hE hG hFX
  generalize hn : L.length = m at *
  generalize hns : S.length = ms at *
  have T1 := hid trivial
  by_cases hl : m ≤ 60
  · by_cases hls : ms ≤ 60
    · obtain ⟨i0, hi, hz0, hz1, hz2⟩ := info_parts Try.infoU64
      go_enter Try.func4, Try.ntmps4
      go_wp2_with (first | (go_at_call 9; refine (live2_any _).mono ?_; rintro e w1 ⟨rfl, hb1⟩; have hu1 := hu.below hb1; have hs1 := hsp.below hb1) | (at_builtin; refine wpList_append_us rfl _ _ 22 rfl w1.heap.size 23 i0 Try.underlying22 hi hz0 hz1 hz2 _ _ [] rfl (World.ownsRow_nil _ _ _ _) _ L rfl hu1 (by omega) (Nat.le_refl _) ?_; intro vw w2 hown2 hgrow2; have hb2 : Below w1.heap.size w1 w2 := (Below.refl _ w1).grown hgrow2 (Nat.le_refl _) (fun q hq => by cases hq); have hu2 := hu1.below hb2; have hs2 := hs1.below hb2; rw [List.nil_append] at hown2; have hw2 := Us.of_own hown2 hu.fits; clear hown2 hgrow2 hu1 hs1) | (go_at_call 19; refine (bel_any h L _ n _ hu2 h0 h1).mono ?_; rw [HX.out, HE.out]; rintro e w3 ⟨vx, rfl, howx, hb3⟩; have hu3 := hu2.below hb3; have hs3 := hs2.below hb3; have hv := own_view howx; obtain ⟨aox, capx, rfl, _⟩ := hv; generalize X.length = nx at *) | (go_at_call 20; refine (rbel_any h L _ n _ hu3 h0 h1).mono ?_; rw [HX.out, HE.out]; rintro e w4 ⟨vy, rfl, howy, hb4⟩; have hu4 := hu3.below hb4; have hs4 := hs3.below hb4; have howx4 := own_kept howx hb4; have uy4 := Us.of_own howy HFX.out; clear howy howx) | (go_at_call 21; refine (gaps_any h L _ _ hu4).mono ?_; rw [HG.out]; rintro e w5 ⟨vg, rfl, howg, hb5⟩; have hu5 := hu4.below hb5; have hs5 := hs4.below hb5; have howx5 := own_kept howx4 hb5; have uy5 := uy4.below hb5; have ug5 := Ps.of_own howg HFG.out; clear howg howx4 uy4) | (go_at_call 22; refine (rgaps_any h L _ _ hu5).mono ?_; rw [HG.out]; rintro e w6 ⟨vr, rfl, howg, hb6⟩; have hs6 := hs5.below hb6; have howx6 := own_kept howx5 hb6; have uy6 := uy5.below hb6; have ug6 := ug5.below hb6; have ur6 := Ps.of_own howg HFG.out; clear howg howx5 uy5 ug5) | (go_at_call 23; refine (many_any h S _ _ hs6).mono ?_; rintro e w7 ⟨rfl, hb7⟩; have hs7 := hs6.below hb7; have howx7 := own_kept howx6 hb7; have uy7 := uy6.below hb7; have ug7 := ug6.below hb7; have ur7 := ur6.below hb7; clear howx6 uy6 ug6 ur6) | (go_at_call 24; refine (rmany_any h S _ _ hs7).mono ?_; rintro e w8 ⟨rfl, hb8⟩; have howx8 := own_kept howx7 hb8; have uy8 := uy7.below hb8; have ug8 := ug7.below hb8; have ur8 := ur7.below hb8; clear howx7 uy7 ug7 ur7) | (go_at_call 16; clear T1; refine (same_yes X _ _ _ (Us.of_own howx8 HFX.out) uy8).mono ?_; rintro e w9 ⟨rfl, hb9⟩; have howx9 := own_kept howx8 hb9; have ug9 := ug8.below hb9; have ur9 := ur8.below hb9; clear howx8 uy8 ug8 ur8) | (go_at_call 25; refine (sameSpans_yes G _ _ _ ug9 ur9).mono ?_; rintro e w10 ⟨rfl, hb10⟩; have howx10 := own_kept howx9 hb10; clear howx9 ug9 ur9))
      have hb210 : Below w2.heap.size w2 w10 := below_trans (below_trans (below_trans (below_trans (below_trans (below_trans (below_trans hb3 hb4) hb5) hb6) hb7) hb8) hb9) hb10
      have hb02 : Below w.heap.size w w2 := below_trans hb1 hb2
      clear hb1 hb2 hb3 hb4 hb5 hb6 hb7 hb8 hb9 hb10 hu3 hu4 hu5 hs2 hs3 hs4 hs5 hs6 hs7
      go_loopw [105] (fun j wr => ∃ (k : Nat) (Y : List Int), k ≤ nx ∧ j = .int .i64 k ∧ (∀ y ∈ Y, 0 ≤ y ∧ y ≤ 4294967296 + k) ∧ wr.ownsRow w2.heap.size 23 1 (.slice aox nx capx) nx (u64s Y) ∧ Below w2.heap.size w2 wr) (fun j _ => nx - (intOf j).toNat)
      case atStart => exact ⟨0, X, by omega, rfl, fun y hy => by have := HGX.out y hy; omega, howx10, hb210⟩
      case round =>
        clear howx10 hb210
        obtain ⟨k, Y, hk, rfl, hY, howx, hb⟩ := hrel
        by_cases hlt : k < nx
        · obtain ⟨g, rfl⟩ := own_some howx (by omega)
          have hyl : Y.length = nx := by have := howx.1; simpa using this
          have hcell := own_cell howx k hlt
          have hfr := howx.frozenAt k
          have hy := getD_mem hY k (by omega)
          have hst := howx.stored k (.int .u64 (Y[k]?.getD 0 + 1))
          rw [u64s_set] at hst
          have hb2 := hb.grown hst.2 hb.size (fun q hq => by cases hq; exact (howx.lt g rfl).1)
          have HY := hid (set_fits (k := k) hY (y := Y[k]?.getD 0 + 1) (by omega) (by omega))
          have HST := hid hst.1
          have HB2 := hid hb2
          obtain ⟨y0, y1⟩ := hy
          clear hst hb2 hY howx hyl
          generalize Y[k]?.getD 0 = y at *
          go_wp2
          go_roundw
          case rel => exact ⟨k + 1, Y.set k (y + 1), by omega, by go_num, fun z hz => by have := HY.out z hz; omega, HST.out, HB2.out⟩
          case measure => simp [intOf]; omega
        · obtain rfl : k = nx := by omega
          clear howx hY
          go_wp2_with (first | (go_at_call 16; refine (same_yes L _ _ _ (hu2.below hb) (hw2.below hb)).mono ?_; rintro e w11 ⟨rfl, hb11⟩))
          go_ret
          exact ⟨rfl, below_trans (below_trans hb02 hb) hb11⟩
    · go_enter Try.func4, Try.ntmps4
      go_wp2_with (first | (go_at_call 9; refine (live2_any _).mono ?_; rintro e w1 ⟨rfl, hb1⟩; have hu1 := hu.below hb1; have hs1 := hsp.below hb1))
      go_ret
      exact ⟨rfl, hb1⟩
  · go_enter Try.func4, Try.ntmps4
    go_wp2_with (first | (go_at_call 9; refine (live2_any _).mono ?_; rintro e w1 ⟨rfl, hb1⟩; have hu1 := hu.below hb1; have hs1 := hsp.below hb1))
    go_ret
    exact ⟨rfl, hb1⟩
end Go.Proofs.Ytbgfbhfjlphpkaa
