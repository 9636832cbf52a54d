/-
  The law TermOnce: what is made is found there, and all ahead stays; made twice it is made once; two terms of a list have one text just if they are one. Conditions: the slice holds terms; the tables read as the row says.
-/
import Derived.Test.YtkggcfkjmmijbaaDoorT11
import Derived.Test.YtkggcfkjmmijbaaDoorNU
namespace Go.Proofs.YtkggcfkjmmijbaaDoor
open Go.RowKit
theorem str_neq {a b : ByteArray} (h : ¬ a = b) : (a.toList == b.toList) = false := by
  cases hb : (a.toList == b.toList) with
  | false => rfl
  | true => exact absurd ((MapKept.bytes_beq a b).1 ((beq_toListBytes a b).trans hb)) h
theorem M.once_cases {A : List M.Tm} {i k : Int} : (¬ M.textE A i = 0) ∨ (M.textE A i = 0 ∧ ¬ M.textE A k = 0) ∨ (M.textE A i = 0 ∧ M.textE A k = 0 ∧ i = k) ∨ (M.textE A i = 0 ∧ M.textE A k = 0 ∧ ¬ i = k ∧ ¬ M.str (M.textV A i) = M.str (M.textV A k)) := by
  by_cases h1 : M.textE A i = 0
  · by_cases h2 : M.textE A k = 0
    · by_cases h3 : i = k
      · exact .inr (.inr (.inl ⟨h1, h2, h3⟩))
      · refine .inr (.inr (.inr ⟨h1, h2, h3, fun e => h3 ?_⟩))
        have e' := M.str_inj.1 e
        unfold M.textV at e'
        rw [if_pos h1, if_pos h2] at e'
        have t1 : M.thr A i = true := by
          rcases Bool.eq_false_or_eq_true (M.thr A i) with h | h
          · exact h
          · unfold M.textE at h1; rw [h] at h1; simp at h1
        have t2 : M.thr A k = true := by
          rcases Bool.eq_false_or_eq_true (M.thr A k) with h | h
          · exact h
          · unfold M.textE at h2; rw [h] at h2; simp at h2
        obtain ⟨a1, a2, a3⟩ := M.thr_iff.1 t1
        obtain ⟨_, b2, b3⟩ := M.thr_iff.1 t2
        have := (M.txt_inj a1 (i := i.toNat) (k := k.toNat) (by omega) (by omega)).1 e'
        omega
    · exact .inr (.inl ⟨h1, h2⟩)
  · exact .inl h1
set_option maxRecDepth 100000 in
set_option maxHeartbeats 4000000 in
theorem termOnce_walk (A : List M.Tm) (v : Value) (t : M.Tm) (i k : Int) (w : World) (hT : Tab w) (u : Ts w v A) (ht : M.fitT t) (_ : -9223372036854775808 ≤ i) (_ : i ≤ 9223372036854775807) (_ : -9223372036854775808 ≤ k) (_ : k ≤ 9223372036854775807) :
    Calls Tryd.prog 5 #[v, tmV t, .int .i64 i, .int .i64 k] w fun e w' => e = .returned (.bool true) ∧ Below w.heap.size w w' := by
  have hq := eqT
  obtain ⟨ao, cap, rfl, q1, q2, q4⟩ := u.form
  have U := hidq (fun X (hb : Below w.heap.size w X) => u.below hb)
  have HT := hidq hT
  have X0 := hidq (Bx3.new w t)
  have HB0 := hidq (below_one (o := (.cells #[.int .i64 t.1, .int .i64 t.2.1, .int .i64 t.2.2] 24)) (Below.refl w.heap.size w))
  have T2 := hidq trivial
  have T4 := hidq trivial
  have FT := hidq ht
  unfold tmV
  by_cases hl : A.length ≤ 60
  · have hcs := M.once_cases (A := A) (i := i) (k := k)
    obtain ⟨s, h1⟩ : ∃ s, M.textV A i = s := ⟨_, rfl⟩
    obtain ⟨e, h2⟩ : ∃ e, M.textE A i = e := ⟨_, rfl⟩
    obtain ⟨s2, h3⟩ : ∃ s, M.textV A k = s := ⟨_, rfl⟩
    obtain ⟨e2, h4⟩ : ∃ e, M.textE A k = e := ⟨_, rfl⟩
    obtain ⟨L, hL⟩ : ∃ L, M.makeL A t = L := ⟨_, rfl⟩
    have FL := hidq (hL ▸ M.make_fit u.oks ht)
    have N1 := hidq h1
    have N2 := hidq h2
    have N3 := hidq h3
    have N4 := hidq h4
    have M3 := hidq hL
    rw [h1, h2, h3, h4] at hcs
    by_cases hm : M.makeE A t = 0
    · have M2 := hidq hm
      obtain ⟨p, p1, p2, p3, p4, _⟩ := M.make_there hm
      obtain ⟨g1, g2, g3, g4, g5⟩ := M.make_again hm
      obtain ⟨l1, l2, l3⟩ := M.make_len hm
      have hok := M.make_ok hm
      rw [hL] at p2 p3 p4 g1 g2 g3 g4 g5 l1 l2 l3 hok
      rw [p1] at g3 g5
      have M1 := hidq p1
      have R1 := hidq g3
      have R2 := hidq g1
      have R3 := hidq g2
      have R4 := hidq g5
      have R5 := hidq g4
      have R6 : Hid (M.chkE L = 0) := if_pos hok
      have L3 := hidq l3
      have P3 := hidq p3
      clear h1 h2 h3 h4 hL u hT ht q4 hm p1 p3 p4 g1 g2 g3 g4 g5 hok l3
      generalize A.length = n at *
      have hpm : (p : Int) < L.length := by omega
      have hw := wrap64 (x := (n : Int) + 1) (by omega) (by omega)
      rcases hcs with hc | ⟨rfl, hc⟩ | ⟨rfl, rfl, rfl⟩ | ⟨rfl, rfl, hc, hc2⟩
      · skip
        go_enter Tryd.func5, Tryd.ntmps5
        go_wp2_with (first | (go_at_call 8; refine (live5_any _ (HT.out.below HB0.out)).mono ?_; rintro r w1 ⟨rfl, hb1⟩; have B1 := hidq (below_trans HB0.out hb1); have X1 := X0.out.below hb1; clear hb1) | (go_at_call 17; clear T2; refine (text_eq N1.out N2.out _ (HT.out.below B1.out) (U.out _ B1.out)).mono ?_; rintro r w2 ⟨rfl, hb2⟩; have B2 := hidq (below_trans B1.out hb2); have X2 := X1.below hb2; clear hb2) | (go_at_call 17; refine (text_eq N3.out N4.out _ (HT.out.below B2.out) (U.out _ B2.out)).mono ?_; rintro r w3 ⟨rfl, hb3⟩; have B3 := hidq (below_trans B2.out hb3); have X3 := X2.below hb3; have c3 := X3.cells; clear hb3) | (go_at_call 11; clear T4; refine (make_eq FT.out M1.out M2.out M3.out _ (U.out _ B3.out)).mono ?_; rintro r w4 ⟨v4, rfl, ho4, hb4⟩; have B4 := hidq (below_trans B3.out hb4); have O4 := hidq (Sl.of_own (E := elTm) ho4 FL.out); obtain ⟨a4, cap4, rfl, z1, z2, z4⟩ := O4.out.form; have X4 := X3.below hb4; have c4 := X4.cells; clear hb4 ho4) | (go_at_call 11; refine (make_eq FT.out R1.out R2.out R3.out _ O4.out).mono ?_; rintro r w5 ⟨v5, rfl, ho5, hb5⟩; have B5 := hidq (below_trans B4.out hb5); have O5 := hidq (Sl.of_own (E := elTm) ho5 FL.out); have P5 := hidq (O4.out.below hb5); have X5 := X4.below hb5; have c5 := X5.cells; clear hb5 ho5) | (go_at_call 9; refine (find_eq FT.out R4.out R5.out _ P5.out).mono ?_; rintro r w6 ⟨rfl, hb6⟩; have B6 := hidq (below_trans B5.out hb6); have P6 := hidq (P5.out.below hb6); have O6 := hidq (O5.out.below hb6); have X6 := X5.below hb6; clear hb6) | (go_at_call 16; refine (same_eq (decide_eq_true rfl) _ O6.out P6.out).mono ?_; rintro r w7 ⟨rfl, hb7⟩; have B7 := hidq (below_trans B6.out hb7); have P7 := hidq (P6.out.below hb7); have X7 := X6.below hb7; clear hb7) | (go_at_call 14; refine (check_eq R6.out _ P7.out).mono ?_; rintro r w8 ⟨rfl, hb8⟩; have B8 := hidq (below_trans B7.out hb8); have P8 := hidq (P7.out.below hb8); have X8 := X7.below hb8; clear hb8))
        obtain ⟨b4, o4, rfl⟩ := z4 (by omega)
        obtain ⟨G, HG, HF, HO, HW, ne⟩ := clq_of w w8 (fun X => Bx3 X w.heap.size t ∧ Ts X (.slice ao n cap) A ∧ Ts X (.slice (some ⟨b4, o4, none⟩) L.length cap4) L) (fun _ _ h hb => ⟨h.1.below hb, h.2.1.below hb, h.2.2.below hb⟩) ⟨X8, U.out _ B8.out, P8.out⟩ B8.out
        have h1 := fun c : Clq G => (HF.out c).1.cells
        have h2 := fun c : Clq G => Ts.cell (HF.out c).2.2 (k := p) p2
        simp only [P3.out] at h2
        have k1 : (n : Int) ≤ cap4 := by omega
        have k2 : ¬ cap4 = 0 := by omega
        have k3 : (n : Int) ≤ L.length := by omega
        have k4 : (L.length : Int) ≤ n + 1 := by omega
        have k5 : (0 : Int) ≤ n := by omega
        have K6 := hidq (show decide (L.take n = A) = true from decide_eq_true L3.out)
        have K7 := hidq (show n ≤ L.length ∧ L.length ≤ cap4 ∧ 0 < cap4 by omega)
        refine regionq (by kernel_rfl) (by kernel_rfl) HW.out ?_
        repeat (go_big_quiet_step (first | (go_at_call 16; exact quietq HG.out _ (same_eq K6.out _ (Ts.take (HF.out _).2.2 K7.out.1 K7.out.2.1 K7.out.2.2) (HF.out _).2.1))))
        refine wpQuiet_nil ?_
        rintro _ ⟨c2, rfl⟩
        have hB2 := hidq (HO.out c2)
        go_wp2
        go_ret
        exact ⟨rfl, hB2.out⟩
      · skip
        go_enter Tryd.func5, Tryd.ntmps5
        go_wp2_with (first | (go_at_call 8; refine (live5_any _ (HT.out.below HB0.out)).mono ?_; rintro r w1 ⟨rfl, hb1⟩; have B1 := hidq (below_trans HB0.out hb1); have X1 := X0.out.below hb1; clear hb1) | (go_at_call 17; clear T2; refine (text_eq N1.out N2.out _ (HT.out.below B1.out) (U.out _ B1.out)).mono ?_; rintro r w2 ⟨rfl, hb2⟩; have B2 := hidq (below_trans B1.out hb2); have X2 := X1.below hb2; clear hb2) | (go_at_call 17; refine (text_eq N3.out N4.out _ (HT.out.below B2.out) (U.out _ B2.out)).mono ?_; rintro r w3 ⟨rfl, hb3⟩; have B3 := hidq (below_trans B2.out hb3); have X3 := X2.below hb3; have c3 := X3.cells; clear hb3) | (go_at_call 11; clear T4; refine (make_eq FT.out M1.out M2.out M3.out _ (U.out _ B3.out)).mono ?_; rintro r w4 ⟨v4, rfl, ho4, hb4⟩; have B4 := hidq (below_trans B3.out hb4); have O4 := hidq (Sl.of_own (E := elTm) ho4 FL.out); obtain ⟨a4, cap4, rfl, z1, z2, z4⟩ := O4.out.form; have X4 := X3.below hb4; have c4 := X4.cells; clear hb4 ho4) | (go_at_call 11; refine (make_eq FT.out R1.out R2.out R3.out _ O4.out).mono ?_; rintro r w5 ⟨v5, rfl, ho5, hb5⟩; have B5 := hidq (below_trans B4.out hb5); have O5 := hidq (Sl.of_own (E := elTm) ho5 FL.out); have P5 := hidq (O4.out.below hb5); have X5 := X4.below hb5; have c5 := X5.cells; clear hb5 ho5) | (go_at_call 9; refine (find_eq FT.out R4.out R5.out _ P5.out).mono ?_; rintro r w6 ⟨rfl, hb6⟩; have B6 := hidq (below_trans B5.out hb6); have P6 := hidq (P5.out.below hb6); have O6 := hidq (O5.out.below hb6); have X6 := X5.below hb6; clear hb6) | (go_at_call 16; refine (same_eq (decide_eq_true rfl) _ O6.out P6.out).mono ?_; rintro r w7 ⟨rfl, hb7⟩; have B7 := hidq (below_trans B6.out hb7); have P7 := hidq (P6.out.below hb7); have X7 := X6.below hb7; clear hb7) | (go_at_call 14; refine (check_eq R6.out _ P7.out).mono ?_; rintro r w8 ⟨rfl, hb8⟩; have B8 := hidq (below_trans B7.out hb8); have P8 := hidq (P7.out.below hb8); have X8 := X7.below hb8; clear hb8))
        obtain ⟨b4, o4, rfl⟩ := z4 (by omega)
        obtain ⟨G, HG, HF, HO, HW, ne⟩ := clq_of w w8 (fun X => Bx3 X w.heap.size t ∧ Ts X (.slice ao n cap) A ∧ Ts X (.slice (some ⟨b4, o4, none⟩) L.length cap4) L) (fun _ _ h hb => ⟨h.1.below hb, h.2.1.below hb, h.2.2.below hb⟩) ⟨X8, U.out _ B8.out, P8.out⟩ B8.out
        have h1 := fun c : Clq G => (HF.out c).1.cells
        have h2 := fun c : Clq G => Ts.cell (HF.out c).2.2 (k := p) p2
        simp only [P3.out] at h2
        have k1 : (n : Int) ≤ cap4 := by omega
        have k2 : ¬ cap4 = 0 := by omega
        have k3 : (n : Int) ≤ L.length := by omega
        have k4 : (L.length : Int) ≤ n + 1 := by omega
        have k5 : (0 : Int) ≤ n := by omega
        have K6 := hidq (show decide (L.take n = A) = true from decide_eq_true L3.out)
        have K7 := hidq (show n ≤ L.length ∧ L.length ≤ cap4 ∧ 0 < cap4 by omega)
        refine regionq (by kernel_rfl) (by kernel_rfl) HW.out ?_
        repeat (go_big_quiet_step (first | (go_at_call 16; exact quietq HG.out _ (same_eq K6.out _ (Ts.take (HF.out _).2.2 K7.out.1 K7.out.2.1 K7.out.2.2) (HF.out _).2.1))))
        refine wpQuiet_nil ?_
        rintro _ ⟨c2, rfl⟩
        have hB2 := hidq (HO.out c2)
        go_wp2
        go_ret
        exact ⟨rfl, hB2.out⟩
      · obtain rfl : s = s2 := N1.out.symm.trans N3.out
        go_enter Tryd.func5, Tryd.ntmps5
        go_wp2_with (first | (go_at_call 8; refine (live5_any _ (HT.out.below HB0.out)).mono ?_; rintro r w1 ⟨rfl, hb1⟩; have B1 := hidq (below_trans HB0.out hb1); have X1 := X0.out.below hb1; clear hb1) | (go_at_call 17; clear T2; refine (text_eq N1.out N2.out _ (HT.out.below B1.out) (U.out _ B1.out)).mono ?_; rintro r w2 ⟨rfl, hb2⟩; have B2 := hidq (below_trans B1.out hb2); have X2 := X1.below hb2; clear hb2) | (go_at_call 17; refine (text_eq N3.out N4.out _ (HT.out.below B2.out) (U.out _ B2.out)).mono ?_; rintro r w3 ⟨rfl, hb3⟩; have B3 := hidq (below_trans B2.out hb3); have X3 := X2.below hb3; have c3 := X3.cells; clear hb3) | (go_at_call 11; clear T4; refine (make_eq FT.out M1.out M2.out M3.out _ (U.out _ B3.out)).mono ?_; rintro r w4 ⟨v4, rfl, ho4, hb4⟩; have B4 := hidq (below_trans B3.out hb4); have O4 := hidq (Sl.of_own (E := elTm) ho4 FL.out); obtain ⟨a4, cap4, rfl, z1, z2, z4⟩ := O4.out.form; have X4 := X3.below hb4; have c4 := X4.cells; clear hb4 ho4) | (go_at_call 11; refine (make_eq FT.out R1.out R2.out R3.out _ O4.out).mono ?_; rintro r w5 ⟨v5, rfl, ho5, hb5⟩; have B5 := hidq (below_trans B4.out hb5); have O5 := hidq (Sl.of_own (E := elTm) ho5 FL.out); have P5 := hidq (O4.out.below hb5); have X5 := X4.below hb5; have c5 := X5.cells; clear hb5 ho5) | (go_at_call 9; refine (find_eq FT.out R4.out R5.out _ P5.out).mono ?_; rintro r w6 ⟨rfl, hb6⟩; have B6 := hidq (below_trans B5.out hb6); have P6 := hidq (P5.out.below hb6); have O6 := hidq (O5.out.below hb6); have X6 := X5.below hb6; clear hb6) | (go_at_call 16; refine (same_eq (decide_eq_true rfl) _ O6.out P6.out).mono ?_; rintro r w7 ⟨rfl, hb7⟩; have B7 := hidq (below_trans B6.out hb7); have P7 := hidq (P6.out.below hb7); have X7 := X6.below hb7; clear hb7) | (go_at_call 14; refine (check_eq R6.out _ P7.out).mono ?_; rintro r w8 ⟨rfl, hb8⟩; have B8 := hidq (below_trans B7.out hb8); have P8 := hidq (P7.out.below hb8); have X8 := X7.below hb8; clear hb8))
        obtain ⟨b4, o4, rfl⟩ := z4 (by omega)
        obtain ⟨G, HG, HF, HO, HW, ne⟩ := clq_of w w8 (fun X => Bx3 X w.heap.size t ∧ Ts X (.slice ao n cap) A ∧ Ts X (.slice (some ⟨b4, o4, none⟩) L.length cap4) L) (fun _ _ h hb => ⟨h.1.below hb, h.2.1.below hb, h.2.2.below hb⟩) ⟨X8, U.out _ B8.out, P8.out⟩ B8.out
        have h1 := fun c : Clq G => (HF.out c).1.cells
        have h2 := fun c : Clq G => Ts.cell (HF.out c).2.2 (k := p) p2
        simp only [P3.out] at h2
        have k1 : (n : Int) ≤ cap4 := by omega
        have k2 : ¬ cap4 = 0 := by omega
        have k3 : (n : Int) ≤ L.length := by omega
        have k4 : (L.length : Int) ≤ n + 1 := by omega
        have k5 : (0 : Int) ≤ n := by omega
        have K6 := hidq (show decide (L.take n = A) = true from decide_eq_true L3.out)
        have K7 := hidq (show n ≤ L.length ∧ L.length ≤ cap4 ∧ 0 < cap4 by omega)
        refine regionq (by kernel_rfl) (by kernel_rfl) HW.out ?_
        repeat (go_big_quiet_step (first | (go_at_call 16; exact quietq HG.out _ (same_eq K6.out _ (Ts.take (HF.out _).2.2 K7.out.1 K7.out.2.1 K7.out.2.2) (HF.out _).2.1))))
        refine wpQuiet_nil ?_
        rintro _ ⟨c2, rfl⟩
        have hB2 := hidq (HO.out c2)
        go_wp2
        go_ret
        exact ⟨rfl, hB2.out⟩
      · have hc3 := str_neq hc2
        have hc4 : ¬ (M.str s).toList = (M.str s2).toList := fun e => by rw [e] at hc3; simp at hc3
        have hc5 : (i == k) = false := beq_eq_false_iff_ne.2 hc
        go_enter Tryd.func5, Tryd.ntmps5
        go_wp2_with (first | (go_at_call 8; refine (live5_any _ (HT.out.below HB0.out)).mono ?_; rintro r w1 ⟨rfl, hb1⟩; have B1 := hidq (below_trans HB0.out hb1); have X1 := X0.out.below hb1; clear hb1) | (go_at_call 17; clear T2; refine (text_eq N1.out N2.out _ (HT.out.below B1.out) (U.out _ B1.out)).mono ?_; rintro r w2 ⟨rfl, hb2⟩; have B2 := hidq (below_trans B1.out hb2); have X2 := X1.below hb2; clear hb2) | (go_at_call 17; refine (text_eq N3.out N4.out _ (HT.out.below B2.out) (U.out _ B2.out)).mono ?_; rintro r w3 ⟨rfl, hb3⟩; have B3 := hidq (below_trans B2.out hb3); have X3 := X2.below hb3; have c3 := X3.cells; clear hb3) | (go_at_call 11; clear T4; refine (make_eq FT.out M1.out M2.out M3.out _ (U.out _ B3.out)).mono ?_; rintro r w4 ⟨v4, rfl, ho4, hb4⟩; have B4 := hidq (below_trans B3.out hb4); have O4 := hidq (Sl.of_own (E := elTm) ho4 FL.out); obtain ⟨a4, cap4, rfl, z1, z2, z4⟩ := O4.out.form; have X4 := X3.below hb4; have c4 := X4.cells; clear hb4 ho4) | (go_at_call 11; refine (make_eq FT.out R1.out R2.out R3.out _ O4.out).mono ?_; rintro r w5 ⟨v5, rfl, ho5, hb5⟩; have B5 := hidq (below_trans B4.out hb5); have O5 := hidq (Sl.of_own (E := elTm) ho5 FL.out); have P5 := hidq (O4.out.below hb5); have X5 := X4.below hb5; have c5 := X5.cells; clear hb5 ho5) | (go_at_call 9; refine (find_eq FT.out R4.out R5.out _ P5.out).mono ?_; rintro r w6 ⟨rfl, hb6⟩; have B6 := hidq (below_trans B5.out hb6); have P6 := hidq (P5.out.below hb6); have O6 := hidq (O5.out.below hb6); have X6 := X5.below hb6; clear hb6) | (go_at_call 16; refine (same_eq (decide_eq_true rfl) _ O6.out P6.out).mono ?_; rintro r w7 ⟨rfl, hb7⟩; have B7 := hidq (below_trans B6.out hb7); have P7 := hidq (P6.out.below hb7); have X7 := X6.below hb7; clear hb7) | (go_at_call 14; refine (check_eq R6.out _ P7.out).mono ?_; rintro r w8 ⟨rfl, hb8⟩; have B8 := hidq (below_trans B7.out hb8); have P8 := hidq (P7.out.below hb8); have X8 := X7.below hb8; clear hb8))
        obtain ⟨b4, o4, rfl⟩ := z4 (by omega)
        obtain ⟨G, HG, HF, HO, HW, ne⟩ := clq_of w w8 (fun X => Bx3 X w.heap.size t ∧ Ts X (.slice ao n cap) A ∧ Ts X (.slice (some ⟨b4, o4, none⟩) L.length cap4) L) (fun _ _ h hb => ⟨h.1.below hb, h.2.1.below hb, h.2.2.below hb⟩) ⟨X8, U.out _ B8.out, P8.out⟩ B8.out
        have h1 := fun c : Clq G => (HF.out c).1.cells
        have h2 := fun c : Clq G => Ts.cell (HF.out c).2.2 (k := p) p2
        simp only [P3.out] at h2
        have k1 : (n : Int) ≤ cap4 := by omega
        have k2 : ¬ cap4 = 0 := by omega
        have k3 : (n : Int) ≤ L.length := by omega
        have k4 : (L.length : Int) ≤ n + 1 := by omega
        have k5 : (0 : Int) ≤ n := by omega
        have K6 := hidq (show decide (L.take n = A) = true from decide_eq_true L3.out)
        have K7 := hidq (show n ≤ L.length ∧ L.length ≤ cap4 ∧ 0 < cap4 by omega)
        refine regionq (by kernel_rfl) (by kernel_rfl) HW.out ?_
        repeat (go_big_quiet_step (first | (go_at_call 16; exact quietq HG.out _ (same_eq K6.out _ (Ts.take (HF.out _).2.2 K7.out.1 K7.out.2.1 K7.out.2.2) (HF.out _).2.1))))
        refine wpQuiet_nil ?_
        rintro _ ⟨c2, rfl⟩
        have hB2 := hidq (HO.out c2)
        go_wp2
        go_ret
        exact ⟨rfl, hB2.out⟩
    · obtain ⟨e5, he5⟩ : ∃ e, M.makeE A t = e := ⟨_, rfl⟩
      have hL0 : L = [] := hL ▸ M.make_none hm
      rw [he5] at hm
      have M2 := hidq he5
      obtain ⟨x5, hx5⟩ : ∃ x, M.makeV A t = x := ⟨_, rfl⟩
      have M1 := hidq hx5
      clear h1 h2 h3 h4 hL u hT ht q4 he5 hx5
      subst hL0
      generalize A.length = n at *
      rcases hcs with hc | ⟨rfl, hc⟩ | ⟨rfl, rfl, rfl⟩ | ⟨rfl, rfl, hc, hc2⟩
      · skip
        go_enter Tryd.func5, Tryd.ntmps5
        go_wp2_with (first | (go_at_call 8; refine (live5_any _ (HT.out.below HB0.out)).mono ?_; rintro r w1 ⟨rfl, hb1⟩; have B1 := hidq (below_trans HB0.out hb1); have X1 := X0.out.below hb1; clear hb1) | (go_at_call 17; clear T2; refine (text_eq N1.out N2.out _ (HT.out.below B1.out) (U.out _ B1.out)).mono ?_; rintro r w2 ⟨rfl, hb2⟩; have B2 := hidq (below_trans B1.out hb2); have X2 := X1.below hb2; clear hb2) | (go_at_call 17; refine (text_eq N3.out N4.out _ (HT.out.below B2.out) (U.out _ B2.out)).mono ?_; rintro r w3 ⟨rfl, hb3⟩; have B3 := hidq (below_trans B2.out hb3); have X3 := X2.below hb3; have c3 := X3.cells; clear hb3) | (go_at_call 11; clear T4; refine (make_eq FT.out M1.out M2.out M3.out _ (U.out _ B3.out)).mono ?_; rintro r w4 ⟨v4, rfl, ho4, hb4⟩; have B4 := hidq (below_trans B3.out hb4); have O4 := hidq (Sl.of_own (E := elTm) ho4 FL.out); obtain ⟨a4, cap4, rfl, z1, z2, z4⟩ := O4.out.form; have X4 := X3.below hb4; have c4 := X4.cells; clear hb4 ho4))
        go_ret
        exact ⟨rfl, B4.out⟩
      · skip
        go_enter Tryd.func5, Tryd.ntmps5
        go_wp2_with (first | (go_at_call 8; refine (live5_any _ (HT.out.below HB0.out)).mono ?_; rintro r w1 ⟨rfl, hb1⟩; have B1 := hidq (below_trans HB0.out hb1); have X1 := X0.out.below hb1; clear hb1) | (go_at_call 17; clear T2; refine (text_eq N1.out N2.out _ (HT.out.below B1.out) (U.out _ B1.out)).mono ?_; rintro r w2 ⟨rfl, hb2⟩; have B2 := hidq (below_trans B1.out hb2); have X2 := X1.below hb2; clear hb2) | (go_at_call 17; refine (text_eq N3.out N4.out _ (HT.out.below B2.out) (U.out _ B2.out)).mono ?_; rintro r w3 ⟨rfl, hb3⟩; have B3 := hidq (below_trans B2.out hb3); have X3 := X2.below hb3; have c3 := X3.cells; clear hb3) | (go_at_call 11; clear T4; refine (make_eq FT.out M1.out M2.out M3.out _ (U.out _ B3.out)).mono ?_; rintro r w4 ⟨v4, rfl, ho4, hb4⟩; have B4 := hidq (below_trans B3.out hb4); have O4 := hidq (Sl.of_own (E := elTm) ho4 FL.out); obtain ⟨a4, cap4, rfl, z1, z2, z4⟩ := O4.out.form; have X4 := X3.below hb4; have c4 := X4.cells; clear hb4 ho4))
        go_ret
        exact ⟨rfl, B4.out⟩
      · obtain rfl : s = s2 := N1.out.symm.trans N3.out
        go_enter Tryd.func5, Tryd.ntmps5
        go_wp2_with (first | (go_at_call 8; refine (live5_any _ (HT.out.below HB0.out)).mono ?_; rintro r w1 ⟨rfl, hb1⟩; have B1 := hidq (below_trans HB0.out hb1); have X1 := X0.out.below hb1; clear hb1) | (go_at_call 17; clear T2; refine (text_eq N1.out N2.out _ (HT.out.below B1.out) (U.out _ B1.out)).mono ?_; rintro r w2 ⟨rfl, hb2⟩; have B2 := hidq (below_trans B1.out hb2); have X2 := X1.below hb2; clear hb2) | (go_at_call 17; refine (text_eq N3.out N4.out _ (HT.out.below B2.out) (U.out _ B2.out)).mono ?_; rintro r w3 ⟨rfl, hb3⟩; have B3 := hidq (below_trans B2.out hb3); have X3 := X2.below hb3; have c3 := X3.cells; clear hb3) | (go_at_call 11; clear T4; refine (make_eq FT.out M1.out M2.out M3.out _ (U.out _ B3.out)).mono ?_; rintro r w4 ⟨v4, rfl, ho4, hb4⟩; have B4 := hidq (below_trans B3.out hb4); have O4 := hidq (Sl.of_own (E := elTm) ho4 FL.out); obtain ⟨a4, cap4, rfl, z1, z2, z4⟩ := O4.out.form; have X4 := X3.below hb4; have c4 := X4.cells; clear hb4 ho4))
        go_ret
        exact ⟨rfl, B4.out⟩
      · have hc3 := str_neq hc2
        have hc4 : ¬ (M.str s).toList = (M.str s2).toList := fun e => by rw [e] at hc3; simp at hc3
        have hc5 : (i == k) = false := beq_eq_false_iff_ne.2 hc
        go_enter Tryd.func5, Tryd.ntmps5
        go_wp2_with (first | (go_at_call 8; refine (live5_any _ (HT.out.below HB0.out)).mono ?_; rintro r w1 ⟨rfl, hb1⟩; have B1 := hidq (below_trans HB0.out hb1); have X1 := X0.out.below hb1; clear hb1) | (go_at_call 17; clear T2; refine (text_eq N1.out N2.out _ (HT.out.below B1.out) (U.out _ B1.out)).mono ?_; rintro r w2 ⟨rfl, hb2⟩; have B2 := hidq (below_trans B1.out hb2); have X2 := X1.below hb2; clear hb2) | (go_at_call 17; refine (text_eq N3.out N4.out _ (HT.out.below B2.out) (U.out _ B2.out)).mono ?_; rintro r w3 ⟨rfl, hb3⟩; have B3 := hidq (below_trans B2.out hb3); have X3 := X2.below hb3; have c3 := X3.cells; clear hb3) | (go_at_call 11; clear T4; refine (make_eq FT.out M1.out M2.out M3.out _ (U.out _ B3.out)).mono ?_; rintro r w4 ⟨v4, rfl, ho4, hb4⟩; have B4 := hidq (below_trans B3.out hb4); have O4 := hidq (Sl.of_own (E := elTm) ho4 FL.out); obtain ⟨a4, cap4, rfl, z1, z2, z4⟩ := O4.out.form; have X4 := X3.below hb4; have c4 := X4.cells; clear hb4 ho4))
        go_ret
        exact ⟨rfl, B4.out⟩
  · clear u hT ht q4
    generalize A.length = n at *
    go_enter Tryd.func5, Tryd.ntmps5
    go_wp2_with (first | (go_at_call 8; refine (live5_any _ (HT.out.below HB0.out)).mono ?_; rintro r w1 ⟨rfl, hb1⟩; have B1 := hidq (below_trans HB0.out hb1); have X1 := X0.out.below hb1; clear hb1))
    go_ret
    exact ⟨rfl, B1.out⟩
end Go.Proofs.YtkggcfkjmmijbaaDoor
