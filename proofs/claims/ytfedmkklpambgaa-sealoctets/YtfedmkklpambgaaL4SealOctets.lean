/-
  The law SealOctets: what is written is read; what is read is written, octet by octet. Condition: the slice holds octets.
-/
import Derived.Test.YtfedmkklpambgaaC7
namespace Go.Proofs.Ytfedmkklpambgaa
open Go.RowKit
set_option maxRecDepth 100000 in
set_option maxHeartbeats 4000000 in
theorem sealOctets_walk (s : M.Sea) (L : List Int) (v : Value) (w : World) (hu : Bs w v L) :
    Calls Try.prog 6 #[seaV s, v] w fun e w' => e = .returned (.bool true) ∧ Below w.heap.size w w' := by
  have hq := eqB
  have hq4 := eqS
  obtain ⟨Xs0, hB0⟩ : Bx4 (w.alloc (.cells #[.int .u64 (M.nu s.1.1), .int .u64 (M.nu s.1.2), .int .u64 (M.nu s.2.1), .int .u64 (M.nu s.2.2)] 26)) w.heap.size s ∧ Below w.heap.size w (w.alloc (.cells #[.int .u64 (M.nu s.1.1), .int .u64 (M.nu s.1.2), .int .u64 (M.nu s.2.1), .int .u64 (M.nu s.2.2)] 26)) := by
    refine ⟨?_, below_one (Below.refl _ _)⟩
    · have := Bx4.new w s
      exact this
  have HU := hid' hu
  have hft := hu.fits
  obtain ⟨ao, cap, rfl, q1, q2, q3, q4⟩ := hu
  clear q3 q4
  unfold seaV
  by_cases hm : L.length ≤ 500
  · have O1 := hid' (M.sofV_soct s)
    have O2 := hid' (M.sofE_soct s)
    obtain ⟨d, hd⟩ : ∃ d, M.sofV L = d := ⟨_, rfl⟩
    obtain ⟨f, hf⟩ : ∃ f, M.sofE L = f := ⟨_, rfl⟩
    have O3 := hid' hd
    have O4 := hid' hf
    have T3 := hid' trivial
    by_cases h32 : L.length = 32
    · have HOC : Hid (M.soct d = L) := by rw [← hd]; exact M.soct_sofV hft h32
      obtain rfl : f = 0 := by rw [← hf]; exact if_pos h32
      clear hd hf hft
      obtain ⟨st, hst⟩ : ∃ st, M.strOf L = st := ⟨_, rfl⟩
      have HST := hid' hst
      clear hst
      generalize L.length = m at *
      subst h32
      go_enter Try.func6, Try.ntmps6
      go_wp2_with (first | (go_at_call 8; refine (live4_any _).mono ?_; rintro r w1 ⟨rfl, hb1⟩; have Ys1 := Xs0.below hb1; have cs1 := Ys1.cells; have ls1 := Ys1.lt; have Xs1 := Ys1; have hB1 := below_trans hB0 hb1; clear hb1) | (go_at_call 17; refine (soctets_any s _).mono ?_; rintro r w2 ⟨v2, he2, hro2, hb2⟩; obtain ⟨gr, capr, rfl⟩ := own_shape8 hro2; subst he2; have Ys2 := Xs1.below hb2; have cs2 := Ys2.cells; have ls2 := Ys2.lt; have Xs2 := Ys2; have hB2 := below_trans hB1 hb2; clear hb2) | (go_at_call 11; clear T3; refine (sof_eq O1.out O2.out _ (Bs.of_own hro2 (M.soct_fits s))).mono ?_; rintro r w3 ⟨rfl, hb3⟩; have Ys3 := Xs2.below hb3; have cs3 := Ys3.cells; have ls3 := Ys3.lt; have Xs3 := Ys3.alloc (.cells #[.int .u64 (M.nu s.1.1), .int .u64 (M.nu s.1.2), .int .u64 (M.nu s.2.1), .int .u64 (M.nu s.2.2)] 26); have Xg3 := Bx4.new w3 s; have hY3 := below_trans hB2 hb3; have hB3 := below_one hY3 (o := (.cells #[.int .u64 (M.nu s.1.1), .int .u64 (M.nu s.1.2), .int .u64 (M.nu s.2.1), .int .u64 (M.nu s.2.2)] 26)); clear hb3) | (go_at_call 11; refine (sof_eq O3.out O4.out _ (HU.out.below hB3)).mono ?_; rintro r w4 ⟨rfl, hb4⟩; have Ys4 := Xs3.below hb4; have cs4 := Ys4.cells; have ls4 := Ys4.lt; have Xs4 := Ys4.alloc (.cells #[.int .u64 (M.nu d.1.1), .int .u64 (M.nu d.1.2), .int .u64 (M.nu d.2.1), .int .u64 (M.nu d.2.2)] 26); have Yg4 := Xg3.below hb4; have cg4 := Yg4.cells; have lg4 := Yg4.lt; have Xg4 := Yg4.alloc (.cells #[.int .u64 (M.nu d.1.1), .int .u64 (M.nu d.1.2), .int .u64 (M.nu d.2.1), .int .u64 (M.nu d.2.2)] 26); have Xd4 := Bx4.new w4 d; have hY4 := below_trans hB3 hb4; have hB4 := below_one hY4 (o := (.cells #[.int .u64 (M.nu d.1.1), .int .u64 (M.nu d.1.2), .int .u64 (M.nu d.2.1), .int .u64 (M.nu d.2.2)] 26)); clear hb4))
      generalize w4.alloc (.cells #[.int .u64 (M.nu d.1.1), .int .u64 (M.nu d.1.2), .int .u64 (M.nu d.2.1), .int .u64 (M.nu d.2.2)] 26) = W8 at *
      generalize w4.heap.size = Gd at *
      have cd := Xd4.cells
      have cv : (convert 27 9 (.slice ao 32 cap)).run Try.prog W8.drew = .ok (.string st) W8.drew := by
        rw [← HST.out]; exact conv_bs (HU.out.below (below_d1 hB4))
      have cw : (convert 27 9 (.slice ao 32 cap)).run Try.prog W8 = .ok (.string st) W8 := by
        rw [← HST.out]; exact conv_bs (HU.out.below hB4)
      go_region_held (fun X => X.cell? ⟨Gd, 0, none⟩ = some (.int .u64 (M.nu d.1.1)) ∧ X.cell? ⟨Gd, 1, none⟩ = some (.int .u64 (M.nu d.1.2)) ∧ X.cell? ⟨Gd, 2, none⟩ = some (.int .u64 (M.nu d.2.1)) ∧ X.cell? ⟨Gd, 3, none⟩ = some (.int .u64 (M.nu d.2.2)) ∧ (convert 27 9 (.slice ao 32 cap)).run Try.prog X = .ok (.string st) X) (go_keep)
        (first | (go_at_call 17; refine (soctets_any d _).mono ?_; rintro r wo ⟨v5, he5, hro5, hb⟩; obtain ⟨gr5, capr5, rfl⟩ := own_shape8 hro5; subst he5; have hBo : Below w.heap.size w wo := below_trans (below_d1 hB4) hb; have cdo := (Bx4.below (B := Gd) (s := d) (by exact Xd4) hb).cells; clear hb; have co := conv_bs (Bs.of_own hro5 (M.soct_fits d)); rw [HOC.out, HST.out] at co; have ct := conv_bs (HU.out.below hBo); rw [HST.out] at ct))
      all_goals go_wp2
      all_goals go_ret
      all_goals exact ⟨rfl, hBo⟩
    · obtain rfl : f = 2 := by rw [← hf]; exact if_neg h32
      clear hd hf hft
      generalize L.length = m at *
      have h32i : ¬ (m : Int) = 32 := by omega
      have h32b : ((m : Int) == 32) = false := by simpa using h32i
      go_enter Try.func6, Try.ntmps6
      go_wp2_with (first | (go_at_call 8; refine (live4_any _).mono ?_; rintro r w1 ⟨rfl, hb1⟩; have Ys1 := Xs0.below hb1; have cs1 := Ys1.cells; have ls1 := Ys1.lt; have Xs1 := Ys1; have hB1 := below_trans hB0 hb1; clear hb1) | (go_at_call 17; refine (soctets_any s _).mono ?_; rintro r w2 ⟨v2, he2, hro2, hb2⟩; obtain ⟨gr, capr, rfl⟩ := own_shape8 hro2; subst he2; have Ys2 := Xs1.below hb2; have cs2 := Ys2.cells; have ls2 := Ys2.lt; have Xs2 := Ys2; have hB2 := below_trans hB1 hb2; clear hb2) | (go_at_call 11; clear T3; refine (sof_eq O1.out O2.out _ (Bs.of_own hro2 (M.soct_fits s))).mono ?_; rintro r w3 ⟨rfl, hb3⟩; have Ys3 := Xs2.below hb3; have cs3 := Ys3.cells; have ls3 := Ys3.lt; have Xs3 := Ys3.alloc (.cells #[.int .u64 (M.nu s.1.1), .int .u64 (M.nu s.1.2), .int .u64 (M.nu s.2.1), .int .u64 (M.nu s.2.2)] 26); have Xg3 := Bx4.new w3 s; have hY3 := below_trans hB2 hb3; have hB3 := below_one hY3 (o := (.cells #[.int .u64 (M.nu s.1.1), .int .u64 (M.nu s.1.2), .int .u64 (M.nu s.2.1), .int .u64 (M.nu s.2.2)] 26)); clear hb3) | (go_at_call 11; refine (sof_eq O3.out O4.out _ (HU.out.below hB3)).mono ?_; rintro r w4 ⟨rfl, hb4⟩; have Ys4 := Xs3.below hb4; have cs4 := Ys4.cells; have ls4 := Ys4.lt; have Xs4 := Ys4.alloc (.cells #[.int .u64 (M.nu d.1.1), .int .u64 (M.nu d.1.2), .int .u64 (M.nu d.2.1), .int .u64 (M.nu d.2.2)] 26); have Yg4 := Xg3.below hb4; have cg4 := Yg4.cells; have lg4 := Yg4.lt; have Xg4 := Yg4.alloc (.cells #[.int .u64 (M.nu d.1.1), .int .u64 (M.nu d.1.2), .int .u64 (M.nu d.2.1), .int .u64 (M.nu d.2.2)] 26); have Xd4 := Bx4.new w4 d; have hY4 := below_trans hB3 hb4; have hB4 := below_one hY4 (o := (.cells #[.int .u64 (M.nu d.1.1), .int .u64 (M.nu d.1.2), .int .u64 (M.nu d.2.1), .int .u64 (M.nu d.2.2)] 26)); clear hb4))
      go_quiet (fail)
      go_wp2
      go_ret
      exact ⟨rfl, by first | exact below_dr hB4 _ | exact hB4⟩
  · generalize L.length = m at *
    go_enter Try.func6, Try.ntmps6
    go_wp2_with (first | (go_at_call 8; refine (live4_any _).mono ?_; rintro r w1 ⟨rfl, hb1⟩; have Ys1 := Xs0.below hb1; have cs1 := Ys1.cells; have ls1 := Ys1.lt; have Xs1 := Ys1; have hB1 := below_trans hB0 hb1; clear hb1))
    go_ret
    exact ⟨rfl, hB1⟩
end Go.Proofs.Ytfedmkklpambgaa
