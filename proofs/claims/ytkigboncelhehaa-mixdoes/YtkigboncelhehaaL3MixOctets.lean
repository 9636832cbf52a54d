/-
  The law MixOctets: a block's octets are sixteen, of which it is again the block; exclusive or is taken octet by octet. Condition: the slice holds octets.
-/
import Derived.Test.YtkigboncelhehaaL3MixApart
import Derived.Test.YtkigboncelhehaaNR
import Derived.Deep.RegionHeld3
namespace Go.Proofs.Ytkigboncelhehaa
open Go.RowKit
theorem box2ab (w : World) (a b : M.Blk) (X : World) (hX : X = (w.alloc (.cells #[.int .u64 (M.nu a.1), .int .u64 (M.nu a.2)] 24)).alloc (.cells #[.int .u64 (M.nu b.1), .int .u64 (M.nu b.2)] 24)) : Bx2 X w.heap.size a ∧ Bx2 X (w.heap.size + 1) b ∧ Below w.heap.size w X := by
  subst hX
  refine ⟨(Bx2.new w a).alloc _, ?_, below_one (below_one (Below.refl _ _))⟩
  have := Bx2.new (w.alloc (.cells #[.int .u64 (M.nu a.1), .int .u64 (M.nu a.2)] 24)) b
  rwa [World.size_alloc] at this
theorem ofV_octs (a : M.Blk) : M.ofV (M.octs a) = a := by
  rw [show M.ofV (M.octs a) = M.ofOct (M.fillF (M.octs a)) from if_pos (octs_length a), M.ofOct_octs]
set_option maxRecDepth 100000 in
set_option maxHeartbeats 4000000 in
theorem mixOctets_walk (a b : M.Blk) (L : List Int) (v : Value) (w : World) (hu : Bs w v L) :
    Calls Try.prog 8 #[blkV a, blkV b, v] w fun e w' => e = .returned (.bool true) ∧ Below w.heap.size w w' := by
  have hq := eqB
  obtain ⟨Xa0, Xb0, hB0⟩ := box2ab w a b _ rfl
  have HU := hid' hu
  have hft := hu.fits
  obtain ⟨ao, cap, rfl, q1, q2, q3, q4⟩ := hu
  clear q3 q4
  unfold blkV
  by_cases hm : L.length ≤ 500
  · have O1 := hid' (ofV_octs a)
    have O2 : Hid (M.ofE (M.octs a) = 0) := if_pos (octs_length a)
    obtain ⟨d, hd⟩ : ∃ d, M.ofV L = d := ⟨_, rfl⟩
    obtain ⟨f, hf⟩ : ∃ f, M.ofE L = f := ⟨_, rfl⟩
    have HE : Hid (L.length = 16 → f = 0 ∧ M.octs d = L) := fun h => by
      refine ⟨by rw [← hf]; exact if_pos h, ?_⟩
      rw [← hd, show M.ofV L = M.ofOct (M.fillF L) from if_pos h, M.octs_ofOct hft h]
    have HE2 : Hid (¬ L.length = 16 → f = 2) := fun h => by rw [← hf]; exact if_neg h
    have O3 := hid' hd
    have O4 := hid' hf
    have HX : Hid (∀ j, bits .xor .u8 (M.oc a j) (M.oc b j) = M.oc (M.xor a b) j) := fun j => M.oc_xor a b j
    have T1 := hid' trivial
    clear hd hf hft
    generalize L.length = m at *
    go_enter Try.func8, Try.ntmps8
    go_wp2_with (first | (go_at_call 11; refine (live_any _).mono ?_; rintro r w1 ⟨rfl, hb1⟩; have Ya1 := Xa0.below hb1; have ca1 := Ya1.cells; have la1 := Ya1.lt; have Xa1 := Ya1; have Yb1 := Xb0.below hb1; have cb1 := Yb1.cells; have lb1 := Yb1.lt; have Xb1 := Yb1; have hB1 := below_trans hB0 hb1; clear hb1) | (go_at_call_of 18 (Value.agg #[.int .u64 (M.nu a.1), .int .u64 (M.nu a.2)]); refine (octets_at a _).mono ?_; rintro r w2 ⟨gx, rfl, Zx2, _, hb2⟩; have Ya2 := Xa1.below hb2; have ca2 := Ya2.cells; have la2 := Ya2.lt; have Xa2 := Ya2; have Yb2 := Xb1.below hb2; have cb2 := Yb2.cells; have lb2 := Yb2.lt; have Xb2 := Yb2; have hB2 := below_trans hB1 hb2; clear hb2) | (go_at_call_of 18 (Value.agg #[.int .u64 (M.nu b.1), .int .u64 (M.nu b.2)]); refine (octets_at b _).mono ?_; rintro r w3 ⟨gy, rfl, Zy3, _, hb3⟩; have Ya3 := Xa2.below hb3; have ca3 := Ya3.cells; have la3 := Ya3.lt; have Xa3 := Ya3; have Yb3 := Xb2.below hb3; have cb3 := Yb3.cells; have lb3 := Yb3.lt; have Xb3 := Yb3; have Zx3 := Zx2.below hb3; have hB3 := below_trans hB2 hb3; clear hb3) | (go_at_call 16; refine (xor_at a b _).mono ?_; rintro r w4 ⟨rfl, hb4⟩; have Ya4 := Xa3.below hb4; have ca4 := Ya4.cells; have la4 := Ya4.lt; have Xa4 := Ya4; have Yb4 := Xb3.below hb4; have cb4 := Yb4.cells; have lb4 := Yb4.lt; have Xb4 := Yb4; have Zx4 := Zx3.below hb4; have Zy4 := Zy3.below hb4; have hB4 := below_trans hB3 hb4; clear hb4) | (go_at_call_of 18 (Value.agg #[.int .u64 (M.nu (M.xor a b).1), .int .u64 (M.nu (M.xor a b).2)]); refine (octets_at (M.xor a b) _).mono ?_; rintro r w5 ⟨gz, rfl, Zz5, _, hb5⟩; have Ya5 := Xa4.below hb5; have ca5 := Ya5.cells; have la5 := Ya5.lt; have Xa5 := Ya5; have Yb5 := Xb4.below hb5; have cb5 := Yb5.cells; have lb5 := Yb5.lt; have Xb5 := Yb5; have Zx5 := Zx4.below hb5; have Zy5 := Zy4.below hb5; have hB5 := below_trans hB4 hb5; clear hb5) | (go_at_call 22; clear T1; refine (of_eq O1.out O2.out _ (Bs.of_box Zx5)).mono ?_; rintro r w6 ⟨rfl, hb6⟩; have Ya6 := Xa5.below hb6; have ca6 := Ya6.cells; have la6 := Ya6.lt; have Xa6 := Ya6; have Yb6 := Xb5.below hb6; have cb6 := Yb6.cells; have lb6 := Yb6.lt; have Xb6 := Yb6; have Zx6 := Zx5.below hb6; have Zy6 := Zy5.below hb6; have Zz6 := Zz5.below hb6; have hB6 := below_trans hB5 hb6; clear hb6))
    have Zx7 := Zx6.alloc (.cells #[.int .u64 (M.nu a.1), .int .u64 (M.nu a.2)] 24)
    have Zy7 := Zy6.alloc (.cells #[.int .u64 (M.nu a.1), .int .u64 (M.nu a.2)] 24)
    have Zz7 := Zz6.alloc (.cells #[.int .u64 (M.nu a.1), .int .u64 (M.nu a.2)] 24)
    have hB7 := below_one hB6 (o := (.cells #[.int .u64 (M.nu a.1), .int .u64 (M.nu a.2)] 24))
    generalize hWd : w6.alloc (.cells #[.int .u64 (M.nu a.1), .int .u64 (M.nu a.2)] 24) = W at *
    generalize w6.heap.size = Gc at *
    clear Xa0 Xb0 hB0 Ya1 ca1 la1 Xa1 Yb1 cb1 lb1 Xb1 hB1 Ya2 ca2 la2 Xa2 Yb2 cb2 lb2 Xb2 hB2 Ya3 ca3 la3 Xa3 Yb3 cb3 lb3 Xb3 hB3 Ya4 ca4 la4 Xa4 Yb4 cb4 lb4 Xb4 hB4 Ya5 ca5 la5 Xa5 Yb5 cb5 lb5 Xb5 hB5 Ya6 ca6 la6 Xa6 Yb6 cb6 lb6 Xb6 hB6 Zx2 Zx3 Zx4 Zx5 Zx6 Zy3 Zy4 Zy5 Zy6 Zz5 Zz6 hWd O1 O2
    have HZx := hid' Zx7
    have HZy := hid' Zy7
    have HZz := hid' Zz7
    have HB7 := hid' hB7
    clear Zx7 Zy7 Zz7 hB7
    go_loopw [58] (fun i wr => ∃ k : Nat, k ≤ 16 ∧ i = .int .i64 k ∧ ∃ n, wr = W.drewN n) (fun i _ => 16 - (intOf i).toNat)
    case atStart => exact ⟨0, by omega, rfl, 0, rfl⟩
    case round =>
      obtain ⟨k, hk, rfl, n, rfl⟩ := hrel
      by_cases hlt : k < 16
      · have h1 := HZx.out.cell k hlt
        have h2 := HZy.out.cell k hlt
        have h3 := HZz.out.cell k hlt
        have h4 := HX.out k
        have k0 : (0 : Int) ≤ k := by omega
        have k1 : (k : Int) < 16 := by omega
        go_wp2
        go_quiet (fail)
        go_wp2
        go_roundw
        case rel => exact ⟨k + 1, by omega, by go_num, _, rfl⟩
        case measure => simp [intOf]; omega
      · have hBr := below_dr HB7.out n
        generalize W.drewN n = Wr at *
        have HBr := hid' hBr
        clear hBr
        by_cases h16 : m = 16
        · obtain ⟨rfl, hoc⟩ := HE.out h16
          subst h16
          have HOC := hid' hoc
          clear hoc HE HE2
          go_wp2_with (first | (go_at_call 22; refine (of_eq O3.out O4.out _ (HU.out.below HBr.out)).mono ?_; rintro r w7 ⟨rfl, hb7⟩; have hB7 := below_trans HBr.out hb7; clear hb7))
          have Xd := Bx2.new w7 d
          have hB8 := below_one hB7 (o := (.cells #[.int .u64 (M.nu d.1), .int .u64 (M.nu d.2)] 24))
          generalize w7.alloc (.cells #[.int .u64 (M.nu d.1), .int .u64 (M.nu d.2)] 24) = W8 at *
          generalize w7.heap.size = Gd at *
          have cd := Xd.cells
          obtain ⟨st, hst⟩ : ∃ st, M.strOf L = st := ⟨_, rfl⟩
          have HST := hid' hst
          clear hst
          have cv : (convert 31 9 (.slice ao 16 cap)).run Try.prog W8.drew = .ok (.string st) W8.drew := by
            rw [← HST.out]; exact conv_bs (HU.out.below (below_d1 hB8))
          have cw : (convert 31 9 (.slice ao 16 cap)).run Try.prog W8 = .ok (.string st) W8 := by
            rw [← HST.out]; exact conv_bs (HU.out.below hB8)
          go_region_held (fun X => X.cell? ⟨Gd, 0, none⟩ = some (.int .u64 (M.nu d.1)) ∧ X.cell? ⟨Gd, 1, none⟩ = some (.int .u64 (M.nu d.2)) ∧ (convert 31 9 (.slice ao 16 cap)).run Try.prog X = .ok (.string st) X) (go_keep)
            (first | (go_at_call 18; refine (octets_at d _).mono ?_; rintro r wo ⟨g, rfl, hg, _, hb⟩; have hBo : Below w.heap.size w wo := below_trans (below_d1 hB8) hb; have cdo := (Bx2.below (B := Gd) (b := d) (by exact Xd) hb).cells; clear hb; have co := conv_bs (Bs.of_box hg); rw [HOC.out, HST.out] at co; have ct := conv_bs (HU.out.below hBo); rw [HST.out] at ct))
          all_goals go_wp2
          all_goals go_ret
          all_goals exact ⟨rfl, hBo⟩
        · obtain rfl := HE2.out h16
          have h16i : ¬ (m : Int) = 16 := by omega
          have h16b : ((m : Int) == 16) = false := by simpa using h16i
          clear HE HE2
          go_wp2_with (first | (go_at_call 22; refine (of_eq O3.out O4.out _ (HU.out.below HBr.out)).mono ?_; rintro r w7 ⟨rfl, hb7⟩; have hB7 := below_trans HBr.out hb7; clear hb7))
          go_quiet (fail)
          go_wp2
          go_ret
          exact ⟨rfl, by first | exact below_dr (below_one hB7) _ | exact below_one hB7⟩
  · generalize L.length = m at *
    go_enter Try.func8, Try.ntmps8
    go_wp2_with (first | (go_at_call 11; refine (live_any _).mono ?_; rintro r w1 ⟨rfl, hb1⟩; have Ya1 := Xa0.below hb1; have ca1 := Ya1.cells; have la1 := Ya1.lt; have Xa1 := Ya1; have Yb1 := Xb0.below hb1; have cb1 := Yb1.cells; have lb1 := Yb1.lt; have Xb1 := Yb1; have hB1 := below_trans hB0 hb1; clear hb1))
    go_ret
    exact ⟨rfl, hB1⟩
end Go.Proofs.Ytkigboncelhehaa
