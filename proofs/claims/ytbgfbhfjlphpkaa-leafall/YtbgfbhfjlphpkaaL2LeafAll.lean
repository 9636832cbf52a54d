/-
  The law LeafAll returns true at every input. Conditions: the numbers fit their kinds.
-/
import Derived.Test.YtbgfbhfjlphpkaaK2
import Derived.Test.YtbgfbhfjlphpkaaGM
namespace Go.Proofs.Ytbgfbhfjlphpkaa
open Go.RowKit
set_option maxRecDepth 100000 in
set_option maxHeartbeats 1000000 in
theorem leafAll_walk (h : Int) (L : List Int) (v : Value) (i : Int) (w : World) (hu : Us w v L) (h0 : 0 ≤ i) (h1 : i ≤ 18446744073709551615) :
    Calls Try.prog 5 #[.int .i64 h, v, .int .u64 i] w fun e w' => e = .returned (.bool true) ∧ Below w.heap.size w w' := by
  have hu' := hu
  obtain ⟨ao, cap, rfl, hq1, hq2, hq3, hq4⟩ := hu'
  have hm : L.length ≤ maxLen := by omega
  unfold maxLen at hm
  generalize hn : L.length = n at *
  by_cases hl : n ≤ 60
  · cases hs : M.setB h L
    · clear hq3 hq4
      go_enter Try.func5, Try.ntmps5
      go_wp2_with (first | (go_at_call 9; refine (live2_any _).mono ?_; rintro e w1 ⟨rfl, hb1⟩; have hu1 := hu.below hb1) | (go_at_call 21; refine (gaps_no h L _ _ hu1 hs).mono ?_; rintro e w2 ⟨rfl, hb2⟩))
      go_ret
      exact ⟨rfl, below_trans hb1 hb2⟩
    · obtain ⟨a1, a2, a3, a4, a5, a6⟩ := M.all_facts hs
      obtain ⟨s1, s2, s3, s4, s5, s6⟩ := M.set_of hs
      have hh := M.ht_mk s1 s2
      have e1 : M.eChk h 1 = 0 := by rw [M.eChk_one, hh]; rfl
      have e2 : M.lowV h 1 = 0 := M.lowV_one h
      have e3 : M.highV h 1 = M.p2 h - 1 := by rw [M.highV_one, hh]; rfl
      have hp := M.p2_32 s2
      have hp1 := M.p2_pos h
      have hgl := gaps_length_le L 0 (M.p2 h - 1)
      have g8 : ∀ x ∈ M.gapsL 0 (M.p2 h - 1) L, 0 ≤ x.1 ∧ x.1 ≤ 18446744073709551615 ∧ 0 ≤ x.2 ∧ x.2 ≤ 18446744073709551615 := fun x hx => by have := a6 x hx; omega
      have A5 := hid (a5 i)
      generalize hG : M.gapsL 0 (M.p2 h - 1) L = G at *
      have HG := hid hG
      have A4 := hid a4
      have A6 := hid (fun k hk => span_mem a6 k hk)
      have HD := hid (fun k hk => @drop_span G k hk)
      rw [hn] at a2
      have b2 : (M.manyV h G + (n : Int) != M.p2 h) = false := by rw [bne_eq_false_iff_eq]; exact a2
      generalize hgn : G.length = gn at *
      have Hgn := hid hgn
      rw [hn] at hgl
      clear hq3 hq4 hG a4 a5 a6 s4 s5 s6 hgn
      go_enter Try.func5, Try.ntmps5
      go_wp2_with (first | (go_at_call 9; refine (live2_any _).mono ?_; rintro e w1 ⟨rfl, hb1⟩; have hu1 := hu.below hb1) | (go_at_call 21; refine (gaps_yes h L _ _ hu1 hs).mono ?_; rw [HG.out]; rintro e w2 ⟨vs, rfl, hown, hb2⟩; have hu2 := hu1.below hb2; have hp2 := Ps.of_own hown g8; clear hown; have hp2' := hp2; obtain ⟨aos, caps, rfl, hr1, hr2, _, hr4⟩ := hp2'; clear hr2; rw [Hgn.out] at hp2 hr1 hr4 ⊢; have HR4 := hid hr4; clear hr4) | (go_at_call 23; refine (many_any h G _ _ hp2).mono ?_; rintro e w3 ⟨rfl, hb3⟩; have hu3 := hu2.below hb3; have hp3 := hp2.below hb3) | (go_at_call 26; refine (leaves_any _ _ _ (by omega) (by omega)).mono ?_; rintro e w4 ⟨rfl, hb4⟩; have hu4 := hu3.below hb4; have hp4 := hp3.below hb4))
      have hbA : Below w.heap.size w w4 := below_trans (below_trans (below_trans hb1 hb2) hb3) hb4
      have hcH : (w4.alloc (.cells #[.int .u64 0, .int .u64 (M.p2 h - 1)] 41)).cell? ⟨w4.heap.size, 1, none⟩ = some (.int .u64 (M.p2 h - 1)) := by rw [cell_at]; rfl
      have HCH := hid hcH
      clear hcH
      go_loopw [14] (fun j wr => ∃ k d : Nat, k ≤ gn + 1 ∧ 1 ≤ k ∧ j = .int .i64 k ∧ wr = (w4.alloc (.cells #[.int .u64 0, .int .u64 (M.p2 h - 1)] 41)).drewN d) (fun j _ => gn + 1 - (intOf j).toNat)
      case atStart => exact ⟨1, 0, by omega, by omega, rfl, rfl⟩
      case round =>
        obtain ⟨k, d, hk, hk1, rfl, rfl⟩ := hrel
        by_cases hlt : k < gn
        · obtain ⟨b, off, rfl, hbl, hc⟩ := HR4.out (by omega)
          have hbw : Below w2.heap.size w2 (w4.alloc (.cells #[.int .u64 0, .int .u64 (M.p2 h - 1)] 41)) := (below_trans hb3 hb4).alloc (below_trans hb3 hb4).size _
          have x1 := (hbw.cell (p := ⟨b, off + (k - 1) * 2 + 1, none⟩) hbl).trans (hc (k - 1) (by omega)).2
          have x2 := (hbw.cell (p := ⟨b, off + k * 2, none⟩) hbl).trans (hc k hlt).1
          have y1 : ((w4.alloc (.cells #[.int .u64 0, .int .u64 (M.p2 h - 1)] 41)).drewN d).cell? ⟨b, off + (k - 1) * 2 + 1, none⟩ = _ := x1
          have y2 : ((w4.alloc (.cells #[.int .u64 0, .int .u64 (M.p2 h - 1)] 41)).drewN d).cell? ⟨b, off + k * 2, none⟩ = _ := x2
          have q1 := A4.out (k - 1) (by omega)
          rw [show k - 1 + 1 = k by omega] at q1
          obtain ⟨_, _, q2, q3⟩ := A6.out (k - 1) (by omega)
          have gk1 : ((k : Int) - 1).toNat = k - 1 := by omega
          have gk2 : (0 : Int) ≤ (k : Int) - 1 := by omega
          have gk3 : (k : Int) - 1 < (gn : Int) := by omega
          clear hc hbw HR4 A4 A5 A6 HD HCH
          generalize (G[k - 1]?.getD (0, 0)).2 = y at *
          generalize (G[k]?.getD (0, 0)).1 = z at *
          have gq : ¬ (z ≤ y + 1) := by omega
          generalize w4.alloc (.cells #[.int .u64 0, .int .u64 (M.p2 h - 1)] 41) = W4 at *
          go_wp2
          go_quiet (fail)
          go_wp2
          go_roundw
          case rel => exact ⟨k + 1, d + nq, by omega, by omega, by go_num, rfl⟩
          case measure => simp [intOf]; omega
        · have hb4A : Below w4.heap.size w4 (w4.alloc (.cells #[.int .u64 0, .int .u64 (M.p2 h - 1)] 41)) := (Below.refl _ _).alloc (Nat.le_refl _) _
          have hszA : (w4.alloc (.cells #[.int .u64 0, .int .u64 (M.p2 h - 1)] 41)).heap.size = w4.heap.size + 1 := by simp
          have hu4A := hu4.below hb4A
          have hp4A := hp4.below hb4A
          generalize w4.alloc (.cells #[.int .u64 0, .int .u64 (M.p2 h - 1)] 41) = W4 at *
          have hb4d : Below W4.heap.size W4 (W4.drewN d) := below_drewN (Below.refl _ _) d
          have hu4d := hu4A.below hb4d
          have hp4d := hp4A.below hb4d
          have hcd : (W4.drewN d).cell? ⟨w4.heap.size, 1, none⟩ = some (.int .u64 (M.p2 h - 1)) := HCH.out
          have hszd : w4.heap.size < (W4.drewN d).heap.size := by show w4.heap.size < W4.heap.size; omega
          have hbd : Below w.heap.size w (W4.drewN d) := below_trans (below_trans hbA hb4A) hb4d
          generalize W4.drewN d = W5 at *
          clear hu4A hp4A hb4A hb4d hszA HCH A4 HR4
          by_cases hf : M.findE h L i = 0
          · have hi : i ≤ M.p2 h - 1 := by
              have := hf
              unfold M.findE at this
              cases hx : (M.setB h L && M.isB h i)
              · rw [hx] at this; simp at this
              · simp at hx
                have := (M.isB_of hx.2).2.2
                omega
            have hV : M.hasV h L i = M.has L i := by unfold M.hasV; rw [hf]; rfl
            have HC : Hid (M.cntS i G = if M.has L i then 0 else 1) := by
              show _ = _
              rw [A5.out]
              cases hx : M.has L i
              · rw [if_pos ⟨h0, hi, M.hasnt_iff.1 hx⟩]; rfl
              · rw [if_neg (fun e => e.2.2 (M.has_iff.1 hx))]; rfl
            clear A5
            go_wp2_with (first | (go_at_call 10; refine (has_any h L _ i _ hu4d h0 h1).mono ?_; rintro e w5 ⟨rfl, hb5⟩; have hp5 := hp4d.below hb5))
            obtain ⟨ao5, cap5, e5, _, _, _, hp54⟩ := hp5
            simp only [Value.slice.injEq] at e5
            obtain ⟨rfl, _, rfl⟩ := e5
            rw [Hgn.out] at hp54
            have HP54 := hid hp54
            clear hp54 hcd
            generalize M.has L i = hs at *
            go_loopw [104, 17] (fun j t wr => ∃ q c : Nat, q ≤ gn ∧ j = .int .i64 q ∧ t = .int .i64 c ∧ c ≤ q ∧ c + M.cntS i (G.drop q) = M.cntS i G ∧ Below w5.heap.size w5 wr) (fun j _ _ => gn - (intOf j).toNat)
            case atStart => exact ⟨0, 0, by omega, rfl, rfl, by omega, by rw [List.drop_zero]; omega, Below.refl _ _⟩
            case round =>
              obtain ⟨q, c, hq, rfl, rfl, hcq, hcc, hb⟩ := hrel
              by_cases hlt : q < gn
              · obtain ⟨b, off, rfl, hbl, hc⟩ := HP54.out (by omega)
                have x1 := (hb.cell (p := ⟨b, off + q * 2, none⟩) hbl).trans (hc q hlt).1
                have x2 := (hb.cell (p := ⟨b, off + q * 2 + 1, none⟩) hbl).trans (hc q hlt).2
                rw [HD.out q hlt] at hcc
                obtain ⟨z1, z2, z3, z4⟩ := A6.out q hlt
                simp only [M.cntS] at hcc
                have HCC := hid hcc
                clear hcc hc HP54 HD A6
                generalize (G[q]?.getD (0, 0)).1 = y at *
                generalize (G[q]?.getD (0, 0)).2 = z at *
                by_cases c1 : y ≤ i
                · by_cases c2 : i ≤ z
                  · have HX : Hid (c + 1 + M.cntS i (G.drop (q + 1)) = M.cntS i G) := by
                      have := HCC.out; rw [if_pos ⟨c1, c2⟩] at this; show _ = _; omega
                    clear HCC HC
                    go_wp2
                    go_roundw
                    case rel => exact ⟨q + 1, c + 1, by omega, by go_num, by go_num, by omega, HX.out, hb.alloc hb.size _⟩
                    case measure => simp [intOf]; omega
                  · have HX : Hid (c + M.cntS i (G.drop (q + 1)) = M.cntS i G) := by
                      have := HCC.out; rw [if_neg (by omega)] at this; show _ = _; omega
                    clear HCC HC
                    go_wp2
                    go_roundw
                    case rel => exact ⟨q + 1, c, by omega, by go_num, rfl, by omega, HX.out, hb.alloc hb.size _⟩
                    case measure => simp [intOf]; omega
                · have HX : Hid (c + M.cntS i (G.drop (q + 1)) = M.cntS i G) := by
                    have := HCC.out; rw [if_neg (by omega)] at this; show _ = _; omega
                  clear HCC HC
                  go_wp2
                  go_roundw
                  case rel => exact ⟨q + 1, c, by omega, by go_num, rfl, by omega, HX.out, hb.alloc hb.size _⟩
                  case measure => simp [intOf]; omega
              · obtain rfl : q = gn := by omega
                rw [← Hgn.out, List.drop_length, HC.out] at hcc
                have hcv : c = if hs = true then 0 else 1 := by simpa [M.cntS] using hcc
                clear hcc HC HP54 HD A6
                cases hs
                · simp only [Bool.false_eq_true, if_false] at hcv
                  subst hcv
                  go_wp2
                  go_ret
                  exact ⟨rfl, below_trans (below_trans hbd hb5) hb⟩
                · simp only [if_true] at hcv
                  subst hcv
                  go_wp2
                  go_ret
                  exact ⟨rfl, below_trans (below_trans hbd hb5) hb⟩
          · have hf1 : M.findE h L i = 1 := by
              unfold M.findE at hf ⊢
              cases hx : (M.setB h L && M.isB h i)
              · rfl
              · rw [hx] at hf; simp at hf
            have hi : M.p2 h - 1 < i := by
              unfold M.findE at hf
              apply Classical.byContradiction
              intro hge
              have hx : M.isB h i = true := by unfold M.isB; rw [hh]; simp; omega
              rw [hs, hx] at hf
              exact hf rfl
            clear A5 hf
            go_wp2_with (first | (go_at_call 10; refine (has_any h L _ i _ hu4d h0 h1).mono ?_; rintro e w5 ⟨rfl, hb5⟩; have hc5 := (hb5.cell (p := ⟨w4.heap.size, 1, none⟩) hszd).trans hcd))
            go_ret
            exact ⟨rfl, below_trans hbd hb5⟩
  · clear hq3 hq4
    go_enter Try.func5, Try.ntmps5
    go_wp2_with (first | (go_at_call 9; refine (live2_any _).mono ?_; rintro e w1 ⟨rfl, hb1⟩; have hu1 := hu.below hb1))
    go_ret
    exact ⟨rfl, hb1⟩
end Go.Proofs.Ytbgfbhfjlphpkaa
