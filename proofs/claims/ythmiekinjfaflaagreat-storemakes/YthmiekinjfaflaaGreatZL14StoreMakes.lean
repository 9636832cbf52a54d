/-
  The law StoreMakes returns true at every input: what any leaf has, whether anything may be what it has, and whether two are the same, or why not, are the document's own answer; terms stay as they were. Conditions: the slices hold terms and entries, the numbers fit their kinds.
-/
import Derived.Test.YthmiekinjfaflaaGreatZSQ10
namespace Go.Proofs.YthmiekinjfaflaaGreat
open Go.RowKit
set_option maxRecDepth 100000 in
set_option maxHeartbeats 8000000 in
theorem storeMakes_walk (A : List M.Tm) (vl : Value) (h k : Int) (m : M.Val) (i : Int) (S : List M.En) (vs : Value) (O : List M.En) (vo : Value) (w : World) (u : Ts w vl A) (_h0 : -9223372036854775808 ≤ h) (_h1 : h ≤ 9223372036854775807) (_k0 : -9223372036854775808 ≤ k) (_k1 : k ≤ 9223372036854775807) (_fm : M.fitI m.2.2.2.2) (i0 : 0 ≤ i) (i1 : i ≤ 18446744073709551615) (us : Es w vs S) (uo : Es w vo O) :
    Calls Tryz.prog 3 #[vl, .int .i64 h, .int .i64 k, (.agg #[.bool m.1, .bool m.2.1, .int .u64 (M.nu m.2.2.1.1), .int .u64 (M.nu m.2.2.1.2), .int .u64 (M.nu m.2.2.2.1.1.1), .int .u64 (M.nu m.2.2.2.1.1.2), .int .u64 (M.nu m.2.2.2.1.2.1), .int .u64 (M.nu m.2.2.2.1.2.2), .int .i64 m.2.2.2.2]), .int .u64 i, vs, vo] w fun e w' => e = .returned (.bool true) ∧ Below w.heap.size w w' := by
  obtain ⟨ao, cap, rfl, -, -, -⟩ := u.form
  obtain ⟨as_, cs, rfl, -, -, -⟩ := us.form
  obtain ⟨ax, cx, rfl, -, -, -⟩ := uo.form
  have FW := hidq (show ∀ x ∈ [] ++ A, elTm.ok x from u.oks)
  have Xm0 := hidq (Bx9.new w m)
  have UA0 := hidq (u.alloc (.cells #[.bool m.1, .bool m.2.1, .int .u64 (M.nu m.2.2.1.1), .int .u64 (M.nu m.2.2.1.2), .int .u64 (M.nu m.2.2.2.1.1.1), .int .u64 (M.nu m.2.2.2.1.1.2), .int .u64 (M.nu m.2.2.2.1.2.1), .int .u64 (M.nu m.2.2.2.1.2.2), .int .i64 m.2.2.2.2] 29))
  have ES0 := hidq (us.alloc (.cells #[.bool m.1, .bool m.2.1, .int .u64 (M.nu m.2.2.1.1), .int .u64 (M.nu m.2.2.1.2), .int .u64 (M.nu m.2.2.2.1.1.1), .int .u64 (M.nu m.2.2.2.1.1.2), .int .u64 (M.nu m.2.2.2.1.2.1), .int .u64 (M.nu m.2.2.2.1.2.2), .int .i64 m.2.2.2.2] 29))
  have EO0 := hidq (uo.alloc (.cells #[.bool m.1, .bool m.2.1, .int .u64 (M.nu m.2.2.1.1), .int .u64 (M.nu m.2.2.1.2), .int .u64 (M.nu m.2.2.2.1.1.1), .int .u64 (M.nu m.2.2.2.1.1.2), .int .u64 (M.nu m.2.2.2.1.2.1), .int .u64 (M.nu m.2.2.2.1.2.2), .int .i64 m.2.2.2.2] 29))
  have B0 := hidq (show Below w.heap.size w (w.alloc (.cells #[.bool m.1, .bool m.2.1, .int .u64 (M.nu m.2.2.1.1), .int .u64 (M.nu m.2.2.1.2), .int .u64 (M.nu m.2.2.2.1.1.1), .int .u64 (M.nu m.2.2.2.1.1.2), .int .u64 (M.nu m.2.2.2.1.2.1), .int .u64 (M.nu m.2.2.2.1.2.2), .int .i64 m.2.2.2.2] 29)) from below_one (Below.refl _ _))
  have cm0 := Xm0.out.cells
  have U := hidq (fun X (hb : Below w.heap.size w X) => u.below hb)
  clear u us uo
  by_cases hl : A.length ≤ 40 ∧ S.length ≤ 600 ∧ O.length ≤ 600 ∧ (h ≤ 8 ∨ 32 < h)
  · obtain ⟨hl, hl2, hl3, hl4⟩ := hl
    obtain ⟨⟨E, L, e⟩, hx⟩ : ∃ z, M.makA A h k m i = z := ⟨_, rfl⟩
    obtain ⟨r, hr⟩ : ∃ z, M.chk14 A h k i S = z := ⟨_, rfl⟩
    obtain ⟨q, hq⟩ : ∃ z, M.eqLs S O = z := ⟨_, rfl⟩
    have K := hidq (M.mak_okL hx)
    have HP := hidq (fun W vl (u : Ts W vl A) => smake_eq hx i0 i1 (vl := vl) W u)
    have HR := hidq (fun W vl (u : Ts W vl A) => rmake_eq hx i0 i1 (vl := vl) W u)
    have CP := hidq (fun W vl vs (u : Ts W vl A) (us : Es W vs S) => schk14_eq hr i0 i1 (vl := vl) (vs := vs) W u us)
    have CR := hidq (fun W vl vs (u : Ts W vl A) (us : Es W vs S) => rchk14_eq hr i0 i1 (vl := vl) (vs := vs) W u us)
    have SP := hidq (fun W v1 v2 (u1 : Es W v1 S) (u2 : Es W v2 O) => ssameE_eq hq (v1 := v1) (v2 := v2) W u1 u2)
    have SR := hidq (fun W v1 v2 (u1 : Es W v1 S) (u2 : Es W v2 O) => rsameE_eq hq (v1 := v1) (v2 := v2) W u1 u2)
    have hll := K.out.1
    have hla : ¬ (40 : Int) < A.length := by omega
    have hlb : ¬ (600 : Int) < S.length := by omega
    have hlc : ¬ (600 : Int) < O.length := by omega
    clear hx hr hq i0 i1 hl2 hl3
    rcases hl4 with hl4 | hl4
    · have hh : ¬ 8 < h := by omega
      have T5 := hidq trivial
      have T6 := hidq trivial
      clear hl4
      go_enter Tryz.func3, Tryz.ntmps3
      go_wp2_with (first | (go_at_call 4; refine (live14_any _).mono ?_; rintro e w1 ⟨rfl, hb1⟩; have Ym1 := Xm0.out.below hb1; have cm1 := Ym1.cells; have lm1 := Ym1.lt; have Xm1 := hidq (Ym1); have UA1 := hidq (UA0.out.below hb1); have ES1 := hidq (ES0.out.below hb1); have EO1 := hidq (EO0.out.below hb1); have B1 := hidq (below_trans B0.out hb1); clear hb1 Ym1) | (at_builtin; refine wpList_append_sl (E := elTm) rfl _ _ rfl w1.heap.size _ _ [] rfl (World.ownsRow_nil _ _ _ _) _ A rfl UA1.out (by omega) (Nat.le_refl _) ?_; intro v2 w2 ho2 hg2; have hb2 := (Below.refl w1.heap.size w1).grown hg2 (Nat.le_refl _) (fun q hq => by cases hq); have UW2 := hidq (Sl.of_own (E := elTm) ho2 FW.out); have Ym2 := Xm1.out.below hb2; have cm2 := Ym2.cells; have lm2 := Ym2.lt; have Xm2 := hidq Ym2; have UA2 := hidq (UA1.out.below hb2); have ES2 := hidq (ES1.out.below hb2); have EO2 := hidq (EO1.out.below hb2); have B2 := hidq (below_trans B1.out hb2); clear hb2 hg2 ho2 Ym2 cm1 lm1) | (go_at_call 5; refine (HP.out _ _ UA2.out).mono ?_; rintro e w3 ⟨va3, vb3, rfl, he3, ho3, hb3⟩; obtain ⟨ae3, ce3, rfl, -⟩ := he3.form; obtain ⟨ao3, cap3, rfl, hs3⟩ := own_formq ho3; have S3 := hidq hs3; have Ym3 := Xm2.out.below hb3; have cm3 := Ym3.cells; have lm3 := Ym3.lt; have Xm3 := hidq (Ym3); have UA3 := hidq (UA2.out.below hb3); have ES3 := hidq (ES2.out.below hb3); have EO3 := hidq (EO2.out.below hb3); have UW3 := hidq (UW2.out.below hb3); have EP3 := hidq (he3); have LP3 := hidq (ts_ofown ho3 K.out); have OQ3 := hidq ((show OwnQ14 _ _ _ w3 from ho3)); have DQ3 := hidq ((show BelQ14 w2 w3 from hb3)); have B3 := hidq (below_trans B2.out hb3); clear he3 ho3 hs3; clear cm2 lm2; clear hb3 Ym3) | (go_at_call 6; refine (HR.out _ _ UA3.out).mono ?_; rintro e w4 ⟨va4, vb4, rfl, he4, ho4, hb4⟩; obtain ⟨ae4, ce4, rfl, -⟩ := he4.form; obtain ⟨ao4, cap4, rfl, -⟩ := own_formq ho4; have Ym4 := Xm3.out.below hb4; have cm4 := Ym4.cells; have lm4 := Ym4.lt; have Xm4 := hidq (Ym4); have UA4 := hidq (UA3.out.below hb4); have ES4 := hidq (ES3.out.below hb4); have EO4 := hidq (EO3.out.below hb4); have UW4 := hidq (UW3.out.below hb4); have EP4 := hidq (EP3.out.below hb4); have LP4 := hidq (LP3.out.below hb4); have OQ4 := hidq (OQ3.out.below hb4); have DQ4 := hidq (DQ3.out.below hb4); have ER4 := hidq (he4); have LR4 := hidq (ts_ofown ho4 K.out); have B4 := hidq (below_trans B3.out hb4); clear he4 ho4; clear cm3 lm3; clear hb4 Ym4) | (go_at_call 7; clear T5; refine (rsameE_eq (M.eqLs_iff.2 rfl) _ EP4.out ER4.out).mono ?_; rintro e w5 ⟨rfl, hb5⟩; have Ym5 := Xm4.out.below hb5; have cm5 := Ym5.cells; have lm5 := Ym5.lt; have Xm5 := hidq (Ym5); have UA5 := hidq (UA4.out.below hb5); have ES5 := hidq (ES4.out.below hb5); have EO5 := hidq (EO4.out.below hb5); have UW5 := hidq (UW4.out.below hb5); have EP5 := hidq (EP4.out.below hb5); have LP5 := hidq (LP4.out.below hb5); have OQ5 := hidq (OQ4.out.below hb5); have DQ5 := hidq (DQ4.out.below hb5); have ER5 := hidq (ER4.out.below hb5); have LR5 := hidq (LR4.out.below hb5); have B5 := hidq (below_trans B4.out hb5); clear cm4 lm4; clear hb5 Ym5) | (go_at_call 8; clear T6; refine (rsame14 LP5.out LR5.out).mono ?_; rintro e w6 ⟨rfl, hb6⟩; have Ym6 := Xm5.out.below hb6; have cm6 := Ym6.cells; have lm6 := Ym6.lt; have Xm6 := hidq (Ym6); have UA6 := hidq (UA5.out.below hb6); have ES6 := hidq (ES5.out.below hb6); have EO6 := hidq (EO5.out.below hb6); have UW6 := hidq (UW5.out.below hb6); have EP6 := hidq (EP5.out.below hb6); have LP6 := hidq (LP5.out.below hb6); have OQ6 := hidq (OQ5.out.below hb6); have DQ6 := hidq (DQ5.out.below hb6); have ER6 := hidq (ER5.out.below hb6); have LR6 := hidq (LR5.out.below hb6); have B6 := hidq (below_trans B5.out hb6); clear cm5 lm5; clear hb6 Ym6) | (go_at_call 9; refine (CP.out _ _ _ UA6.out ES6.out).mono ?_; rintro e w7 ⟨rfl, hb7⟩; have Ym7 := Xm6.out.below hb7; have cm7 := Ym7.cells; have lm7 := Ym7.lt; have Xm7 := hidq (Ym7); have UA7 := hidq (UA6.out.below hb7); have ES7 := hidq (ES6.out.below hb7); have EO7 := hidq (EO6.out.below hb7); have UW7 := hidq (UW6.out.below hb7); have EP7 := hidq (EP6.out.below hb7); have LP7 := hidq (LP6.out.below hb7); have OQ7 := hidq (OQ6.out.below hb7); have DQ7 := hidq (DQ6.out.below hb7); have ER7 := hidq (ER6.out.below hb7); have LR7 := hidq (LR6.out.below hb7); have B7 := hidq (below_trans B6.out hb7); clear cm6 lm6; clear hb7 Ym7) | (go_at_call 10; refine (CR.out _ _ _ UA7.out ES7.out).mono ?_; rintro e w8 ⟨rfl, hb8⟩; have Ym8 := Xm7.out.below hb8; have cm8 := Ym8.cells; have lm8 := Ym8.lt; have Xm8 := hidq (Ym8); have UA8 := hidq (UA7.out.below hb8); have ES8 := hidq (ES7.out.below hb8); have EO8 := hidq (EO7.out.below hb8); have UW8 := hidq (UW7.out.below hb8); have EP8 := hidq (EP7.out.below hb8); have LP8 := hidq (LP7.out.below hb8); have OQ8 := hidq (OQ7.out.below hb8); have DQ8 := hidq (DQ7.out.below hb8); have ER8 := hidq (ER7.out.below hb8); have LR8 := hidq (LR7.out.below hb8); have B8 := hidq (below_trans B7.out hb8); clear cm7 lm7; clear hb8 Ym8) | (go_at_call 11; refine (SP.out _ _ _ ES8.out EO8.out).mono ?_; rintro e w9 ⟨rfl, hb9⟩; have Ym9 := Xm8.out.below hb9; have cm9 := Ym9.cells; have lm9 := Ym9.lt; have Xm9 := hidq (Ym9); have UA9 := hidq (UA8.out.below hb9); have ES9 := hidq (ES8.out.below hb9); have EO9 := hidq (EO8.out.below hb9); have UW9 := hidq (UW8.out.below hb9); have EP9 := hidq (EP8.out.below hb9); have LP9 := hidq (LP8.out.below hb9); have OQ9 := hidq (OQ8.out.below hb9); have DQ9 := hidq (DQ8.out.below hb9); have ER9 := hidq (ER8.out.below hb9); have LR9 := hidq (LR8.out.below hb9); have B9 := hidq (below_trans B8.out hb9); clear cm8 lm8; clear hb9 Ym9) | (go_at_call 7; refine (SR.out _ _ _ ES9.out EO9.out).mono ?_; rintro e w10 ⟨rfl, hb10⟩; have Ym10 := Xm9.out.below hb10; have cm10 := Ym10.cells; have lm10 := Ym10.lt; have Xm10 := hidq (Ym10); have UA10 := hidq (UA9.out.below hb10); have ES10 := hidq (ES9.out.below hb10); have EO10 := hidq (EO9.out.below hb10); have UW10 := hidq (UW9.out.below hb10); have EP10 := hidq (EP9.out.below hb10); have LP10 := hidq (LP9.out.below hb10); have OQ10 := hidq (OQ9.out.below hb10); have DQ10 := hidq (DQ9.out.below hb10); have ER10 := hidq (ER9.out.below hb10); have LR10 := hidq (LR9.out.below hb10); have B10 := hidq (below_trans B9.out hb10); clear cm9 lm9; clear hb10 Ym10))
      obtain ⟨mm, hm⟩ : ∃ mm, L.length = mm := ⟨_, rfl⟩
      have Hm := hidq hm
      have OS := hidq (show w10.ownsRow _ 39 3 _ L.length (elTm.cells L) from OQ10.out)
      have DS := DQ10
      rw [hm] at OS S3 hll ⊢
      have PS := hidq (show Below w2.heap.size w2 w10 from DS.out)
      clear hm OQ10 DQ10 DS
      go_loopw [109] (fun x wr => ∃ k : Nat, k ≤ mm ∧ x = .int .i64 k ∧ (∃ X : List M.Tm, X.length = mm ∧ wr.ownsRow w2.heap.size 39 3 (.slice ao3 mm cap3) mm (elTm.cells X)) ∧ Below w2.heap.size w2 wr) (fun x _ => mm - (intOf x).toNat)
      case atStart => exact ⟨0, by omega, rfl, ⟨L, Hm.out, OS.out⟩, PS.out⟩
      case round =>
        obtain ⟨q, hk, rfl, ⟨X, hX, hoX⟩, hbX⟩ := hrel
        have HX := hidq hX
        have OX := hidq hoX
        have BX := hidq hbX
        clear hX hoX hbX OS PS
        by_cases hlt : q < mm
        · obtain ⟨g5, rfl, hg5⟩ := S3.out (by omega)
          have c1 := own_tm14 OX.out HX.out hlt
          have f1 := OX.out.frozenAt (q * 3)
          have HST := hidq (fun z => own_tm_set14 OX.out q z)
          have HBS := hidq (fun z => show Below w2.heap.size w2 (wr.setCell ⟨g5, q * 3, none⟩ z) from BX.out.setCell hg5 _)
          have hkm : (q : Int) < mm := by omega
          go_wp2
          go_roundw
          case rel => exact ⟨q + 1, by omega, by go_num, ⟨_, by rw [List.length_set]; exact HX.out, HST.out _⟩, HBS.out _⟩
          case measure => simp [intOf]; omega
        · have BW := hidq (below_trans B2.out BX.out)
          have AW := hidq (UW2.out.below BX.out)
          clear OX
          go_wp2_with (first | (go_at_call 8; refine (rsame14 (A := A) (U.out _ BW.out) (show Ts wr _ A from AW.out)).mono ?_; rintro r wz ⟨rfl, hbz⟩))
          go_ret
          exact ⟨rfl, below_trans BW.out hbz⟩
    · have hh : ¬ h ≤ 32 := by omega
      have hh2 : 8 < h := by omega
      have T5 := hidq trivial
      have T6 := hidq trivial
      clear hl4
      go_enter Tryz.func3, Tryz.ntmps3
      go_wp2_with (first | (go_at_call 4; refine (live14_any _).mono ?_; rintro e w1 ⟨rfl, hb1⟩; have Ym1 := Xm0.out.below hb1; have cm1 := Ym1.cells; have lm1 := Ym1.lt; have Xm1 := hidq (Ym1); have UA1 := hidq (UA0.out.below hb1); have ES1 := hidq (ES0.out.below hb1); have EO1 := hidq (EO0.out.below hb1); have B1 := hidq (below_trans B0.out hb1); clear hb1 Ym1) | (at_builtin; refine wpList_append_sl (E := elTm) rfl _ _ rfl w1.heap.size _ _ [] rfl (World.ownsRow_nil _ _ _ _) _ A rfl UA1.out (by omega) (Nat.le_refl _) ?_; intro v2 w2 ho2 hg2; have hb2 := (Below.refl w1.heap.size w1).grown hg2 (Nat.le_refl _) (fun q hq => by cases hq); have UW2 := hidq (Sl.of_own (E := elTm) ho2 FW.out); have Ym2 := Xm1.out.below hb2; have cm2 := Ym2.cells; have lm2 := Ym2.lt; have Xm2 := hidq Ym2; have UA2 := hidq (UA1.out.below hb2); have ES2 := hidq (ES1.out.below hb2); have EO2 := hidq (EO1.out.below hb2); have B2 := hidq (below_trans B1.out hb2); clear hb2 hg2 ho2 Ym2 cm1 lm1) | (go_at_call 5; refine (HP.out _ _ UA2.out).mono ?_; rintro e w3 ⟨va3, vb3, rfl, he3, ho3, hb3⟩; obtain ⟨ae3, ce3, rfl, -⟩ := he3.form; obtain ⟨ao3, cap3, rfl, hs3⟩ := own_formq ho3; have S3 := hidq hs3; have Ym3 := Xm2.out.below hb3; have cm3 := Ym3.cells; have lm3 := Ym3.lt; have Xm3 := hidq (Ym3); have UA3 := hidq (UA2.out.below hb3); have ES3 := hidq (ES2.out.below hb3); have EO3 := hidq (EO2.out.below hb3); have UW3 := hidq (UW2.out.below hb3); have EP3 := hidq (he3); have LP3 := hidq (ts_ofown ho3 K.out); have OQ3 := hidq ((show OwnQ14 _ _ _ w3 from ho3)); have DQ3 := hidq ((show BelQ14 w2 w3 from hb3)); have B3 := hidq (below_trans B2.out hb3); clear he3 ho3 hs3; clear cm2 lm2; clear hb3 Ym3) | (go_at_call 6; refine (HR.out _ _ UA3.out).mono ?_; rintro e w4 ⟨va4, vb4, rfl, he4, ho4, hb4⟩; obtain ⟨ae4, ce4, rfl, -⟩ := he4.form; obtain ⟨ao4, cap4, rfl, -⟩ := own_formq ho4; have Ym4 := Xm3.out.below hb4; have cm4 := Ym4.cells; have lm4 := Ym4.lt; have Xm4 := hidq (Ym4); have UA4 := hidq (UA3.out.below hb4); have ES4 := hidq (ES3.out.below hb4); have EO4 := hidq (EO3.out.below hb4); have UW4 := hidq (UW3.out.below hb4); have EP4 := hidq (EP3.out.below hb4); have LP4 := hidq (LP3.out.below hb4); have OQ4 := hidq (OQ3.out.below hb4); have DQ4 := hidq (DQ3.out.below hb4); have ER4 := hidq (he4); have LR4 := hidq (ts_ofown ho4 K.out); have B4 := hidq (below_trans B3.out hb4); clear he4 ho4; clear cm3 lm3; clear hb4 Ym4) | (go_at_call 7; clear T5; refine (rsameE_eq (M.eqLs_iff.2 rfl) _ EP4.out ER4.out).mono ?_; rintro e w5 ⟨rfl, hb5⟩; have Ym5 := Xm4.out.below hb5; have cm5 := Ym5.cells; have lm5 := Ym5.lt; have Xm5 := hidq (Ym5); have UA5 := hidq (UA4.out.below hb5); have ES5 := hidq (ES4.out.below hb5); have EO5 := hidq (EO4.out.below hb5); have UW5 := hidq (UW4.out.below hb5); have EP5 := hidq (EP4.out.below hb5); have LP5 := hidq (LP4.out.below hb5); have OQ5 := hidq (OQ4.out.below hb5); have DQ5 := hidq (DQ4.out.below hb5); have ER5 := hidq (ER4.out.below hb5); have LR5 := hidq (LR4.out.below hb5); have B5 := hidq (below_trans B4.out hb5); clear cm4 lm4; clear hb5 Ym5) | (go_at_call 8; clear T6; refine (rsame14 LP5.out LR5.out).mono ?_; rintro e w6 ⟨rfl, hb6⟩; have Ym6 := Xm5.out.below hb6; have cm6 := Ym6.cells; have lm6 := Ym6.lt; have Xm6 := hidq (Ym6); have UA6 := hidq (UA5.out.below hb6); have ES6 := hidq (ES5.out.below hb6); have EO6 := hidq (EO5.out.below hb6); have UW6 := hidq (UW5.out.below hb6); have EP6 := hidq (EP5.out.below hb6); have LP6 := hidq (LP5.out.below hb6); have OQ6 := hidq (OQ5.out.below hb6); have DQ6 := hidq (DQ5.out.below hb6); have ER6 := hidq (ER5.out.below hb6); have LR6 := hidq (LR5.out.below hb6); have B6 := hidq (below_trans B5.out hb6); clear cm5 lm5; clear hb6 Ym6) | (go_at_call 9; refine (CP.out _ _ _ UA6.out ES6.out).mono ?_; rintro e w7 ⟨rfl, hb7⟩; have Ym7 := Xm6.out.below hb7; have cm7 := Ym7.cells; have lm7 := Ym7.lt; have Xm7 := hidq (Ym7); have UA7 := hidq (UA6.out.below hb7); have ES7 := hidq (ES6.out.below hb7); have EO7 := hidq (EO6.out.below hb7); have UW7 := hidq (UW6.out.below hb7); have EP7 := hidq (EP6.out.below hb7); have LP7 := hidq (LP6.out.below hb7); have OQ7 := hidq (OQ6.out.below hb7); have DQ7 := hidq (DQ6.out.below hb7); have ER7 := hidq (ER6.out.below hb7); have LR7 := hidq (LR6.out.below hb7); have B7 := hidq (below_trans B6.out hb7); clear cm6 lm6; clear hb7 Ym7) | (go_at_call 10; refine (CR.out _ _ _ UA7.out ES7.out).mono ?_; rintro e w8 ⟨rfl, hb8⟩; have Ym8 := Xm7.out.below hb8; have cm8 := Ym8.cells; have lm8 := Ym8.lt; have Xm8 := hidq (Ym8); have UA8 := hidq (UA7.out.below hb8); have ES8 := hidq (ES7.out.below hb8); have EO8 := hidq (EO7.out.below hb8); have UW8 := hidq (UW7.out.below hb8); have EP8 := hidq (EP7.out.below hb8); have LP8 := hidq (LP7.out.below hb8); have OQ8 := hidq (OQ7.out.below hb8); have DQ8 := hidq (DQ7.out.below hb8); have ER8 := hidq (ER7.out.below hb8); have LR8 := hidq (LR7.out.below hb8); have B8 := hidq (below_trans B7.out hb8); clear cm7 lm7; clear hb8 Ym8) | (go_at_call 11; refine (SP.out _ _ _ ES8.out EO8.out).mono ?_; rintro e w9 ⟨rfl, hb9⟩; have Ym9 := Xm8.out.below hb9; have cm9 := Ym9.cells; have lm9 := Ym9.lt; have Xm9 := hidq (Ym9); have UA9 := hidq (UA8.out.below hb9); have ES9 := hidq (ES8.out.below hb9); have EO9 := hidq (EO8.out.below hb9); have UW9 := hidq (UW8.out.below hb9); have EP9 := hidq (EP8.out.below hb9); have LP9 := hidq (LP8.out.below hb9); have OQ9 := hidq (OQ8.out.below hb9); have DQ9 := hidq (DQ8.out.below hb9); have ER9 := hidq (ER8.out.below hb9); have LR9 := hidq (LR8.out.below hb9); have B9 := hidq (below_trans B8.out hb9); clear cm8 lm8; clear hb9 Ym9) | (go_at_call 7; refine (SR.out _ _ _ ES9.out EO9.out).mono ?_; rintro e w10 ⟨rfl, hb10⟩; have Ym10 := Xm9.out.below hb10; have cm10 := Ym10.cells; have lm10 := Ym10.lt; have Xm10 := hidq (Ym10); have UA10 := hidq (UA9.out.below hb10); have ES10 := hidq (ES9.out.below hb10); have EO10 := hidq (EO9.out.below hb10); have UW10 := hidq (UW9.out.below hb10); have EP10 := hidq (EP9.out.below hb10); have LP10 := hidq (LP9.out.below hb10); have OQ10 := hidq (OQ9.out.below hb10); have DQ10 := hidq (DQ9.out.below hb10); have ER10 := hidq (ER9.out.below hb10); have LR10 := hidq (LR9.out.below hb10); have B10 := hidq (below_trans B9.out hb10); clear cm9 lm9; clear hb10 Ym10))
      obtain ⟨mm, hm⟩ : ∃ mm, L.length = mm := ⟨_, rfl⟩
      have Hm := hidq hm
      have OS := hidq (show w10.ownsRow _ 39 3 _ L.length (elTm.cells L) from OQ10.out)
      have DS := DQ10
      rw [hm] at OS S3 hll ⊢
      have PS := hidq (show Below w2.heap.size w2 w10 from DS.out)
      clear hm OQ10 DQ10 DS
      go_loopw [109] (fun x wr => ∃ k : Nat, k ≤ mm ∧ x = .int .i64 k ∧ (∃ X : List M.Tm, X.length = mm ∧ wr.ownsRow w2.heap.size 39 3 (.slice ao3 mm cap3) mm (elTm.cells X)) ∧ Below w2.heap.size w2 wr) (fun x _ => mm - (intOf x).toNat)
      case atStart => exact ⟨0, by omega, rfl, ⟨L, Hm.out, OS.out⟩, PS.out⟩
      case round =>
        obtain ⟨q, hk, rfl, ⟨X, hX, hoX⟩, hbX⟩ := hrel
        have HX := hidq hX
        have OX := hidq hoX
        have BX := hidq hbX
        clear hX hoX hbX OS PS
        by_cases hlt : q < mm
        · obtain ⟨g5, rfl, hg5⟩ := S3.out (by omega)
          have c1 := own_tm14 OX.out HX.out hlt
          have f1 := OX.out.frozenAt (q * 3)
          have HST := hidq (fun z => own_tm_set14 OX.out q z)
          have HBS := hidq (fun z => show Below w2.heap.size w2 (wr.setCell ⟨g5, q * 3, none⟩ z) from BX.out.setCell hg5 _)
          have hkm : (q : Int) < mm := by omega
          go_wp2
          go_roundw
          case rel => exact ⟨q + 1, by omega, by go_num, ⟨_, by rw [List.length_set]; exact HX.out, HST.out _⟩, HBS.out _⟩
          case measure => simp [intOf]; omega
        · have BW := hidq (below_trans B2.out BX.out)
          have AW := hidq (UW2.out.below BX.out)
          clear OX
          go_wp2_with (first | (go_at_call 8; refine (rsame14 (A := A) (U.out _ BW.out) (show Ts wr _ A from AW.out)).mono ?_; rintro r wz ⟨rfl, hbz⟩))
          go_ret
          exact ⟨rfl, below_trans BW.out hbz⟩
  · by_cases hl1 : A.length ≤ 40
    · have hla : ¬ (40 : Int) < A.length := by omega
      by_cases hl2 : S.length ≤ 600
      · have hlb : ¬ (600 : Int) < S.length := by omega
        by_cases hl3 : O.length ≤ 600
        · have hlc : ¬ (600 : Int) < O.length := by omega
          have hh : 8 < h := by omega
          have hh2 : h ≤ 32 := by omega
          clear hl
          go_enter Tryz.func3, Tryz.ntmps3
          go_wp2_with (first | (go_at_call 4; refine (live14_any _).mono ?_; rintro e w1 ⟨rfl, hb1⟩; have Ym1 := Xm0.out.below hb1; have cm1 := Ym1.cells; have lm1 := Ym1.lt; have Xm1 := hidq (Ym1); have B1 := hidq (below_trans B0.out hb1); clear hb1 Ym1))
          go_ret
          exact ⟨rfl, B1.out⟩
        · have hlc : (600 : Int) < O.length := by omega
          clear hl
          go_enter Tryz.func3, Tryz.ntmps3
          go_wp2_with (first | (go_at_call 4; refine (live14_any _).mono ?_; rintro e w1 ⟨rfl, hb1⟩; have Ym1 := Xm0.out.below hb1; have cm1 := Ym1.cells; have lm1 := Ym1.lt; have Xm1 := hidq (Ym1); have B1 := hidq (below_trans B0.out hb1); clear hb1 Ym1))
          go_ret
          exact ⟨rfl, B1.out⟩
      · have hlb : (600 : Int) < S.length := by omega
        clear hl
        go_enter Tryz.func3, Tryz.ntmps3
        go_wp2_with (first | (go_at_call 4; refine (live14_any _).mono ?_; rintro e w1 ⟨rfl, hb1⟩; have Ym1 := Xm0.out.below hb1; have cm1 := Ym1.cells; have lm1 := Ym1.lt; have Xm1 := hidq (Ym1); have B1 := hidq (below_trans B0.out hb1); clear hb1 Ym1))
        go_ret
        exact ⟨rfl, B1.out⟩
    · have hla : (40 : Int) < A.length := by omega
      clear hl
      go_enter Tryz.func3, Tryz.ntmps3
      go_wp2_with (first | (go_at_call 4; refine (live14_any _).mono ?_; rintro e w1 ⟨rfl, hb1⟩; have Ym1 := Xm0.out.below hb1; have cm1 := Ym1.cells; have lm1 := Ym1.lt; have Xm1 := hidq (Ym1); have B1 := hidq (below_trans B0.out hb1); clear hb1 Ym1))
      go_ret
      exact ⟨rfl, B1.out⟩
end Go.Proofs.YthmiekinjfaflaaGreat
