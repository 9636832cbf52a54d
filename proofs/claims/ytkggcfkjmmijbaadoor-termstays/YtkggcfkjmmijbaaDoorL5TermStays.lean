/-
  The law TermStays: what was found stays where it was, whatever is made behind it; the terms up to any place may be by themselves. Conditions: the slice holds terms; the tables read as the row says.
-/
import Derived.Test.YtkggcfkjmmijbaaDoorT11
import Derived.Test.YtkggcfkjmmijbaaDoorNU
namespace Go.Proofs.YtkggcfkjmmijbaaDoor
open Go.RowKit
theorem box3two (w : World) (t o : M.Tm) : Bx3 ((w.alloc (.cells #[.int .i64 t.1, .int .i64 t.2.1, .int .i64 t.2.2] 24)).alloc (.cells #[.int .i64 o.1, .int .i64 o.2.1, .int .i64 o.2.2] 24)) w.heap.size t ∧ Bx3 ((w.alloc (.cells #[.int .i64 t.1, .int .i64 t.2.1, .int .i64 t.2.2] 24)).alloc (.cells #[.int .i64 o.1, .int .i64 o.2.1, .int .i64 o.2.2] 24)) (w.heap.size + 1) o := by
  refine ⟨(Bx3.new w t).alloc _, ?_⟩
  have := Bx3.new (w.alloc (.cells #[.int .i64 t.1, .int .i64 t.2.1, .int .i64 t.2.2] 24)) o
  rwa [World.size_alloc] at this
set_option maxRecDepth 100000 in
set_option maxHeartbeats 1000000 in
theorem termStays_walk (A : List M.Tm) (v : Value) (t o : M.Tm) (cut : Int) (w : World) (hT : Tab w) (u : Ts w v A) (ht : M.fitT t) (ho : M.fitT o) (_ : -9223372036854775808 ≤ cut) (_ : cut ≤ 9223372036854775807) :
    Calls Tryd.prog 7 #[v, tmV t, tmV o, .int .i64 cut] w fun e w' => e = .returned (.bool true) ∧ Below w.heap.size w w' := by
  obtain ⟨ao, cap, rfl, q1, q2, q4⟩ := u.form
  have U := hidq (fun X (hb : Below w.heap.size w X) => u.below hb)
  have HT := hidq hT
  obtain ⟨xt, xo⟩ := box3two w t o
  have Xt0 := hidq xt
  have Xo0 := hidq xo
  have HB0 := hidq (below_one (o := (.cells #[.int .i64 o.1, .int .i64 o.2.1, .int .i64 o.2.2] 24)) (below_one (o := (.cells #[.int .i64 t.1, .int .i64 t.2.1, .int .i64 t.2.2] 24)) (Below.refl w.heap.size w)))
  have T2 := hidq trivial
  have T4 := hidq trivial
  have FT := hidq ht
  have FO := hidq ho
  unfold tmV
  by_cases hl : A.length ≤ 60
  · by_cases hA : M.Ok A
    · have HC : Hid (M.chkE A = 0) := if_pos hA
      obtain ⟨r, hr, r1, r2, c, hc, hcn⟩ := M.tmod_cut cut A.length
      have HD : Hid (M.chkE (A.take c) = 0) := if_pos (hA.take c)
      have UC : Hid (∀ X, Below w.heap.size w X → Ts X (.slice ao c cap) (A.take c)) := by
        intro X hb
        by_cases hcap : 0 < cap
        · obtain ⟨b, off, rfl⟩ := q4 hcap
          exact Ts.take (u.below hb) hcn q1 hcap
        · have hn0 : A.length = 0 := by omega
          have hA0 : A = [] := List.eq_nil_of_length_eq_zero hn0
          have hc0 : cap = 0 := by omega
          have hcc : c = 0 := by omega
          subst hA0 hc0 hcc
          exact Sl.empty
      have hw1 := wrap64 (x := (A.length : Int) + 1) (by omega) (by omega)
      have hw2 := wrap64 (x := r) (by omega) (by omega)
      have hw3 := wrap64 (x := r + A.length) (by omega) (by omega)
      have hw4 := wrap64 (x := r + A.length + 1) (by omega) (by omega)
      have hw5 := wrap64 (x := (c : Int)) (by omega) (by omega)
      have hnz : ¬ (A.length : Int) + 1 = 0 := by omega
      obtain ⟨x, hx⟩ : ∃ x, M.findV A o = x := ⟨_, rfl⟩
      obtain ⟨e, he⟩ : ∃ e, M.findE A o = e := ⟨_, rfl⟩
      have F1 := hidq hx
      have F2 := hidq he
      obtain ⟨L, hL⟩ : ∃ L, M.makeL A t = L := ⟨_, rfl⟩
      have M3 := hidq hL
      have FL := hidq (hL ▸ M.make_fit u.oks ht)
      have c0 : (0 : Int) ≤ c := by omega
      have c1 : (c : Int) ≤ cap := by omega
      have k0 : cap = 0 ∨ ¬ cap = 0 := by omega
      by_cases hm : M.makeE A t = 0
      · have M2 := hidq hm
        obtain ⟨x2, hx2⟩ : ∃ x, M.findV L o = x := ⟨_, rfl⟩
        obtain ⟨e2, he2⟩ : ∃ e, M.findE L o = e := ⟨_, rfl⟩
        have G1 := hidq hx2
        have G2 := hidq he2
        by_cases h0 : e = 0
        · obtain ⟨s1, s2⟩ := M.find_stays (t := t) (he.trans h0) hm
          rw [hL, he2] at s1
          rw [hL, hx2, hx] at s2
          subst h0 s1 s2
          clear hA hx he hL hm hx2 he2 u hT ht ho xt xo q4
          generalize A.length = n at *
          rcases k0 with rfl | k0
          all_goals go_enter Tryd.func7, Tryd.ntmps7
          all_goals go_wp2_with (first | (go_at_call 8; refine (live5_any _ (HT.out.below HB0.out)).mono ?_; rintro r w1 ⟨rfl, hb1⟩; have B1 := hidq (below_trans HB0.out hb1); have Xt1 := Xt0.out.below hb1; have Xo1 := Xo0.out.below hb1; clear hb1) | (go_at_call 14; clear T2; refine (check_eq HC.out _ (U.out _ B1.out)).mono ?_; rintro r w2 ⟨rfl, hb2⟩; have B2 := hidq (below_trans B1.out hb2); have Xt2 := Xt1.below hb2; have Xo2 := Xo1.below hb2; clear hb2) | (go_at_call 14; refine (check_eq HD.out _ (UC.out _ B2.out)).mono ?_; rintro r w3 ⟨rfl, hb3⟩; have B3 := hidq (below_trans B2.out hb3); have Xt3 := Xt2.below hb3; have Xo3 := Xo2.below hb3; have ct3 := Xt3.cells; have co3 := Xo3.cells; clear hb3) | (go_at_call 9; clear T4; refine (find_eq FO.out F1.out F2.out _ (U.out _ B3.out)).mono ?_; rintro r w4 ⟨rfl, hb4⟩; have B4 := hidq (below_trans B3.out hb4); have Xt4 := Xt3.below hb4; have Xo4 := Xo3.below hb4; have ct4 := Xt4.cells; have co4 := Xo4.cells; clear hb4) | (go_at_call 11; refine (make_eq FT.out rfl M2.out M3.out _ (U.out _ B4.out)).mono ?_; rintro r w5 ⟨v5, rfl, ho5, hb5⟩; have B5 := hidq (below_trans B4.out hb5); have O5 := hidq (Sl.of_own (E := elTm) ho5 FL.out); have Xo5 := Xo4.below hb5; have co5 := Xo5.cells; clear hb5 ho5) | (go_at_call 9; refine (find_eq FO.out G1.out G2.out _ O5.out).mono ?_; rintro r w6 ⟨rfl, hb6⟩; have B6 := hidq (below_trans B5.out hb6); clear hb6))
          all_goals go_ret
          all_goals exact ⟨rfl, B6.out⟩
        · clear hA hx he hL hm hx2 he2 u hT ht ho xt xo q4
          generalize A.length = n at *
          rcases k0 with rfl | k0
          all_goals go_enter Tryd.func7, Tryd.ntmps7
          all_goals go_wp2_with (first | (go_at_call 8; refine (live5_any _ (HT.out.below HB0.out)).mono ?_; rintro r w1 ⟨rfl, hb1⟩; have B1 := hidq (below_trans HB0.out hb1); have Xt1 := Xt0.out.below hb1; have Xo1 := Xo0.out.below hb1; clear hb1) | (go_at_call 14; clear T2; refine (check_eq HC.out _ (U.out _ B1.out)).mono ?_; rintro r w2 ⟨rfl, hb2⟩; have B2 := hidq (below_trans B1.out hb2); have Xt2 := Xt1.below hb2; have Xo2 := Xo1.below hb2; clear hb2) | (go_at_call 14; refine (check_eq HD.out _ (UC.out _ B2.out)).mono ?_; rintro r w3 ⟨rfl, hb3⟩; have B3 := hidq (below_trans B2.out hb3); have Xt3 := Xt2.below hb3; have Xo3 := Xo2.below hb3; have ct3 := Xt3.cells; have co3 := Xo3.cells; clear hb3) | (go_at_call 9; clear T4; refine (find_eq FO.out F1.out F2.out _ (U.out _ B3.out)).mono ?_; rintro r w4 ⟨rfl, hb4⟩; have B4 := hidq (below_trans B3.out hb4); have Xt4 := Xt3.below hb4; have Xo4 := Xo3.below hb4; have ct4 := Xt4.cells; have co4 := Xo4.cells; clear hb4) | (go_at_call 11; refine (make_eq FT.out rfl M2.out M3.out _ (U.out _ B4.out)).mono ?_; rintro r w5 ⟨v5, rfl, ho5, hb5⟩; have B5 := hidq (below_trans B4.out hb5); have O5 := hidq (Sl.of_own (E := elTm) ho5 FL.out); have Xo5 := Xo4.below hb5; have co5 := Xo5.cells; clear hb5 ho5) | (go_at_call 9; refine (find_eq FO.out G1.out G2.out _ O5.out).mono ?_; rintro r w6 ⟨rfl, hb6⟩; have B6 := hidq (below_trans B5.out hb6); clear hb6))
          all_goals go_ret
          all_goals exact ⟨rfl, B6.out⟩
      · obtain ⟨e5, he5⟩ : ∃ e, M.makeE A t = e := ⟨_, rfl⟩
        rw [he5] at hm
        have M2 := hidq he5
        clear hA hx he hL he5 u hT ht ho xt xo q4
        generalize A.length = n at *
        rcases k0 with rfl | k0
        all_goals go_enter Tryd.func7, Tryd.ntmps7
        all_goals go_wp2_with (first | (go_at_call 8; refine (live5_any _ (HT.out.below HB0.out)).mono ?_; rintro r w1 ⟨rfl, hb1⟩; have B1 := hidq (below_trans HB0.out hb1); have Xt1 := Xt0.out.below hb1; have Xo1 := Xo0.out.below hb1; clear hb1) | (go_at_call 14; clear T2; refine (check_eq HC.out _ (U.out _ B1.out)).mono ?_; rintro r w2 ⟨rfl, hb2⟩; have B2 := hidq (below_trans B1.out hb2); have Xt2 := Xt1.below hb2; have Xo2 := Xo1.below hb2; clear hb2) | (go_at_call 14; refine (check_eq HD.out _ (UC.out _ B2.out)).mono ?_; rintro r w3 ⟨rfl, hb3⟩; have B3 := hidq (below_trans B2.out hb3); have Xt3 := Xt2.below hb3; have Xo3 := Xo2.below hb3; have ct3 := Xt3.cells; have co3 := Xo3.cells; clear hb3) | (go_at_call 9; clear T4; refine (find_eq FO.out F1.out F2.out _ (U.out _ B3.out)).mono ?_; rintro r w4 ⟨rfl, hb4⟩; have B4 := hidq (below_trans B3.out hb4); have Xt4 := Xt3.below hb4; have Xo4 := Xo3.below hb4; have ct4 := Xt4.cells; have co4 := Xo4.cells; clear hb4) | (go_at_call 11; refine (make_eq FT.out rfl M2.out M3.out _ (U.out _ B4.out)).mono ?_; rintro r w5 ⟨v5, rfl, ho5, hb5⟩; have B5 := hidq (below_trans B4.out hb5); have O5 := hidq (Sl.of_own (E := elTm) ho5 FL.out); have Xo5 := Xo4.below hb5; have co5 := Xo5.cells; clear hb5 ho5))
        all_goals go_ret
        all_goals exact ⟨rfl, B5.out⟩
    · have HC : Hid (M.chkE A = 1) := if_neg hA
      clear hA u hT ht ho xt xo q4
      generalize A.length = n at *
      go_enter Tryd.func7, Tryd.ntmps7
      go_wp2_with (first | (go_at_call 8; refine (live5_any _ (HT.out.below HB0.out)).mono ?_; rintro r w1 ⟨rfl, hb1⟩; have B1 := hidq (below_trans HB0.out hb1); have Xt1 := Xt0.out.below hb1; have Xo1 := Xo0.out.below hb1; clear hb1) | (go_at_call 14; clear T2; refine (check_eq HC.out _ (U.out _ B1.out)).mono ?_; rintro r w2 ⟨rfl, hb2⟩; have B2 := hidq (below_trans B1.out hb2); have Xt2 := Xt1.below hb2; have Xo2 := Xo1.below hb2; clear hb2))
      go_ret
      exact ⟨rfl, B2.out⟩
  · clear u hT ht ho xt xo q4
    generalize A.length = n at *
    go_enter Tryd.func7, Tryd.ntmps7
    go_wp2_with (first | (go_at_call 8; refine (live5_any _ (HT.out.below HB0.out)).mono ?_; rintro r w1 ⟨rfl, hb1⟩; have B1 := hidq (below_trans HB0.out hb1); have Xt1 := Xt0.out.below hb1; have Xo1 := Xo0.out.below hb1; clear hb1))
    go_ret
    exact ⟨rfl, B1.out⟩
end Go.Proofs.YtkggcfkjmmijbaaDoor
