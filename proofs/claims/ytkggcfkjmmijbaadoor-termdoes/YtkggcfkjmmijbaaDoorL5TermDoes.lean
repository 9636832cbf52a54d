/-
  The law TermDoes: any term found, and made, whether any may be, and whether two lists are the same, or why not; the list stays as it was. Conditions: the slices hold terms; the tables read as the row says.
-/
import Derived.Test.YtkggcfkjmmijbaaDoorT11
import Derived.Test.YtkggcfkjmmijbaaDoorNU
namespace Go.Proofs.YtkggcfkjmmijbaaDoor
open Go.RowKit
theorem elTm_set : ∀ (X : List M.Tm) (k : Nat) (z : Int), (elTm.cells X).set (k * 3) (.int .i64 z) = elTm.cells (X.set k (z, (M.at_ X k).2))
  | [], k, z => rfl
  | x :: X, 0, z => rfl
  | x :: X, k + 1, z => by
    have ih := elTm_set X k z
    have e1 : ∀ (y : M.Tm) (Y : List M.Tm), elTm.cells (y :: Y) = .int .i64 y.1 :: .int .i64 y.2.1 :: .int .i64 y.2.2 :: elTm.cells Y := fun _ _ => rfl
    rw [e1, show (k + 1) * 3 = k * 3 + 1 + 1 + 1 by omega, List.set_cons_succ, List.set_cons_succ, List.set_cons_succ, ih, List.set_cons_succ, e1]
    rfl
theorem own_tm {w : World} {base g n cap : Nat} {X : List M.Tm} (h : w.ownsRow base 24 3 (.slice (some ⟨g, 0, none⟩) n cap) n (elTm.cells X)) (hX : X.length = n) {k : Nat} (hk : k < n) : w.cell? ⟨g, k * 3, none⟩ = some (.int .i64 (M.at_ X k).1) := by
  rw [h.cellAt (k * 3) (by omega)]
  exact elTm.cells_get X k 0 _ (at_get (by omega)) (by decide)
theorem own_tm_set {w : World} {base g n cap : Nat} {X : List M.Tm} (h : w.ownsRow base 24 3 (.slice (some ⟨g, 0, none⟩) n cap) n (elTm.cells X)) (k : Nat) (z : Int) : (w.setCell ⟨g, k * 3, none⟩ (.int .i64 z)).ownsRow base 24 3 (.slice (some ⟨g, 0, none⟩) n cap) n (elTm.cells (X.set k (z, (M.at_ X k).2))) := by
  have := (h.stored (k * 3) (.int .i64 z)).1
  rwa [elTm_set] at this
set_option maxRecDepth 100000 in
set_option maxHeartbeats 4000000 in
theorem termDoes_walk (A : List M.Tm) (v : Value) (C : List M.Tm) (vo : Value) (t : M.Tm) (w : World) (hT : Tab w) (u : Ts w v A) (uo : Ts w vo C) (ht : M.fitT t) :
    Calls Tryd.prog 3 #[v, vo, tmV t] w fun e w' => e = .returned (.bool true) ∧ Below w.heap.size w w' := by
  obtain ⟨ao, cap, rfl, q1, q2, _⟩ := u.form
  obtain ⟨bo, capo, rfl, z1, z2, _⟩ := uo.form
  have U := hidq (fun X (hb : Below w.heap.size w X) => u.below hb)
  have V := hidq (fun X (hb : Below w.heap.size w X) => uo.below hb)
  have FA := hidq (show ∀ x ∈ [] ++ A, elTm.ok x from u.oks)
  have HT := hidq hT
  have X0 := hidq (Bx3.new w t)
  have HB0 := hidq (below_one (o := (.cells #[.int .i64 t.1, .int .i64 t.2.1, .int .i64 t.2.2] 24)) (Below.refl w.heap.size w))
  have T7 := hidq trivial
  have FT := hidq ht
  unfold tmV
  obtain ⟨L, hL⟩ : ∃ L, M.makeL A t = L := ⟨_, rfl⟩
  have FL := hidq (hL ▸ M.make_fit u.oks ht)
  have M3 := hidq hL
  obtain ⟨x, h1⟩ : ∃ x, M.findV A t = x := ⟨_, rfl⟩
  obtain ⟨e, h2⟩ : ∃ e, M.findE A t = e := ⟨_, rfl⟩
  obtain ⟨y, h3⟩ : ∃ x, M.makeV A t = x := ⟨_, rfl⟩
  obtain ⟨f, h4⟩ : ∃ e, M.makeE A t = e := ⟨_, rfl⟩
  obtain ⟨g, h5⟩ : ∃ e, M.chkE A = e := ⟨_, rfl⟩
  obtain ⟨s, h6⟩ : ∃ s, decide (A = C) = s := ⟨_, rfl⟩
  have F1 := hidq h1
  have F2 := hidq h2
  have M1 := hidq h3
  have M2 := hidq h4
  have K1 := hidq h5
  have K2 := hidq h6
  have hll : L.length ≤ A.length + 1 := by
    by_cases hm : M.makeE A t = 0
    · rw [← hL]; exact (M.make_len hm).2.1
    · rw [← hL, M.make_none hm]; simp
  clear u uo hT ht h1 h2 h3 h4 h5 h6 hL
  by_cases hl : A.length ≤ 300
  · by_cases hl2 : C.length ≤ 300
    · generalize hn : A.length = n at *
      have Hn := hidq hn
      clear hn
      generalize C.length = n2 at *
      go_enter Tryd.func3, Tryd.ntmps3
      go_wp2_with (first | (go_at_call 8; refine (live5_any _ (HT.out.below HB0.out)).mono ?_; rintro r w1 ⟨rfl, hb1⟩; have B1 := hidq (below_trans HB0.out hb1); have X1 := X0.out.below hb1; clear hb1) | (at_builtin; refine wpList_append_sl (E := elTm) rfl _ _ rfl w1.heap.size _ _ [] rfl (World.ownsRow_nil _ _ _ _) _ A rfl (U.out _ B1.out) (by have := Hn.out; omega) (Nat.le_refl _) ?_; intro v2 w2 ho2 hg2; have hb2 := below_grownq hg2 rfl; have B2 := hidq (below_trans B1.out hb2); have X2 := X1.below hb2; have c2 := X2.cells; have A2 := hidq (Sl.of_own (E := elTm) ho2 FA.out); clear hb2 hg2 ho2) | (go_at_call 9; refine (find_eq FT.out F1.out F2.out _ (U.out _ B2.out)).mono ?_; rintro r w3 ⟨rfl, hb3⟩; have B3 := hidq (below_trans B2.out hb3); have X3 := X2.below hb3; have c3 := X3.cells; have A3 := hidq (A2.out.below hb3); clear hb3) | (go_at_call 10; refine (rfind_eq F1.out F2.out _ (U.out _ B3.out)).mono ?_; rintro r w4 ⟨rfl, hb4⟩; have B4 := hidq (below_trans B3.out hb4); have X4 := X3.below hb4; have c4 := X4.cells; have A4 := hidq (A3.out.below hb4); clear hb4) | (go_at_call 11; refine (make_eq FT.out M1.out M2.out M3.out _ (U.out _ B4.out)).mono ?_; rintro r w5 ⟨v5, rfl, ho5, hb5⟩; obtain ⟨a5, cap5, rfl, hs5⟩ := own_formq ho5; have S5 := hidq hs5; clear hs5; have B5 := hidq (below_trans B4.out hb5); have D5 := hidq hb5; have X5 := X4.below hb5; have c5 := X5.cells; have O5 := hidq ho5; clear hb5 ho5) | (go_at_call 12; refine (rmake_eq FT.out M1.out M2.out M3.out _ (U.out _ B5.out)).mono ?_; rintro r w6 ⟨v6, rfl, ho6, hb6⟩; have B6 := hidq (below_trans B5.out hb6); have D6 := hidq (below_trans D5.out hb6); have O6 := hidq (own_keptq O5.out hb6); have P6 := hidq (Sl.of_own (E := elTm) ho6 FL.out); have Q6 := hidq (Sl.of_own (E := elTm) O6.out FL.out); clear hb6 ho6) | (go_at_call 13; clear T7; refine (rsame_eq (decide_eq_true rfl) _ Q6.out P6.out).mono ?_; rintro r w7 ⟨rfl, hb7⟩; have B7 := hidq (below_trans B6.out hb7); have D7 := hidq (below_trans D6.out hb7); have O7 := hidq (own_keptq O6.out hb7); clear hb7) | (go_at_call 14; refine (check_eq K1.out _ (U.out _ B7.out)).mono ?_; rintro r w8 ⟨rfl, hb8⟩; have B8 := hidq (below_trans B7.out hb8); have D8 := hidq (below_trans D7.out hb8); have O8 := hidq (own_keptq O7.out hb8); clear hb8) | (go_at_call 15; refine (rcheck_eq K1.out _ (U.out _ B8.out)).mono ?_; rintro r w9 ⟨rfl, hb9⟩; have B9 := hidq (below_trans B8.out hb9); have D9 := hidq (below_trans D8.out hb9); have O9 := hidq (own_keptq O8.out hb9); clear hb9) | (go_at_call 16; refine (same_eq K2.out _ (U.out _ B9.out) (V.out _ B9.out)).mono ?_; rintro r wa ⟨rfl, hba⟩; have Ba := hidq (below_trans B9.out hba); have Da := hidq (below_trans D9.out hba); have Oa := hidq (own_keptq O9.out hba); clear hba) | (go_at_call 13; refine (rsame_eq K2.out _ (U.out _ Ba.out) (V.out _ Ba.out)).mono ?_; rintro r wb ⟨rfl, hbb⟩; have Db := hidq (below_trans Da.out hbb); have Ob := hidq (own_keptq Oa.out hbb); clear hbb))
      obtain ⟨m, hm⟩ : ∃ m, L.length = m := ⟨_, rfl⟩
      have Hm := hidq hm
      rw [hm] at Ob hll S5 ⊢
      clear hm O5 O6 O7 O8 O9 Oa P6 Q6 D5 D6 D7 D8 D9 Da B5 B6 B7 B8 B9 Ba c2 c3 c4 c5 X1 X2 X3 X4 X5
      go_loopw [100] (fun x wr => ∃ k : Nat, k ≤ m ∧ x = .int .i64 k ∧ (∃ X : List M.Tm, X.length = m ∧ wr.ownsRow w4.heap.size 24 3 (.slice a5 m cap5) m (elTm.cells X)) ∧ Below w4.heap.size w4 wr) (fun x _ => m - (intOf x).toNat)
      case atStart => exact ⟨0, by omega, rfl, ⟨L, Hm.out, Ob.out⟩, Db.out⟩
      case round =>
        obtain ⟨k, hk, rfl, ⟨X, hX, hoX⟩, hbX⟩ := hrel
        have HX := hidq hX
        have OX := hidq hoX
        have BX := hidq hbX
        clear hX hoX hbX Ob Db
        by_cases hlt : k < m
        · obtain ⟨g5, rfl, hg5⟩ := S5.out (by omega)
          have c1 := own_tm OX.out HX.out hlt
          have f1 := OX.out.frozenAt (k * 3)
          have HST := hidq (fun z => own_tm_set OX.out k z)
          have HBS := hidq (fun z => show Below w4.heap.size w4 (wr.setCell ⟨g5, k * 3, none⟩ z) from BX.out.setCell hg5 _)
          have hkm : (k : Int) < m := by omega
          go_wp2
          go_roundw
          case rel => exact ⟨k + 1, by omega, by go_num, ⟨_, by rw [List.length_set]; exact HX.out, HST.out _⟩, HBS.out _⟩
          case measure => simp [intOf]; omega
        · have BW := hidq (below_trans B4.out BX.out)
          have AW := hidq (A4.out.below BX.out)
          clear OX
          go_wp2_with (first | (go_at_call 13; refine (rsame_eq (A := A) (B := [] ++ A) (decide_eq_true rfl) _ (U.out _ BW.out) AW.out).mono ?_; rintro r wz ⟨rfl, hbz⟩))
          go_ret
          exact ⟨rfl, below_trans BW.out hbz⟩
    · generalize A.length = n at *
      generalize C.length = n2 at *
      go_enter Tryd.func3, Tryd.ntmps3
      go_wp2_with (first | (go_at_call 8; refine (live5_any _ (HT.out.below HB0.out)).mono ?_; rintro r w1 ⟨rfl, hb1⟩; have B1 := hidq (below_trans HB0.out hb1); have X1 := X0.out.below hb1; clear hb1))
      go_ret
      exact ⟨rfl, B1.out⟩
  · generalize A.length = n at *
    generalize C.length = n2 at *
    go_enter Tryd.func3, Tryd.ntmps3
    go_wp2_with (first | (go_at_call 8; refine (live5_any _ (HT.out.below HB0.out)).mono ?_; rintro r w1 ⟨rfl, hb1⟩; have B1 := hidq (below_trans HB0.out hb1); have X1 := X0.out.below hb1; clear hb1))
    go_ret
    exact ⟨rfl, B1.out⟩
end Go.Proofs.YtkggcfkjmmijbaaDoor
