/-
  What the program's store.Make answers at every input. Conditions: the slice holds terms, the leaf's number fits its kind.
-/
import Derived.Test.YthmiekinjfaflaaGreatZSQ2
import Derived.Test.YthmiekinjfaflaaGreatZSQ8
import Derived.Test.YthmiekinjfaflaaGreatZSt12
namespace Go.Proofs.YthmiekinjfaflaaGreat
open Go.RowKit
theorem M.pm_small6 {h k i : Int} (h0 : 0 ≤ i) (hE : M.prsE h k i = 0) : (M.prsL h k i).length ≤ 600 := by
  obtain ⟨q1, -, q3, q4⟩ := M.prs_length h0 hE
  have hb := M.pr_facts q3 q4
  have hm : h * (h + 1) ≤ 32 * 33 := Int.mul_le_mul q4 (by omega) (by omega) (by omega)
  have : M.pmV h k ≤ 600 := by
    unfold M.pmV
    split
    · split
      · omega
      · split <;> omega
    · omega
  omega
set_option maxRecDepth 100000 in
set_option maxHeartbeats 4000000 in
theorem smake_no {A : List M.Tm} {h k : Int} {m : M.Val} {i : Int} (hx : (decide (M.prsE h k i = 0) && M.opn A m) = false) (h0 : 0 ≤ i) (h1 : i ≤ 18446744073709551615) {vl : Value} (w : World) (u : Ts w vl A) :
    Calls Tryz.prog 5 #[vl, .int .i64 h, .int .i64 k, (.agg #[.bool m.1, .bool m.2.1, .int .u64 (M.nu m.2.2.1.1), .int .u64 (M.nu m.2.2.1.2), .int .u64 (M.nu m.2.2.2.1.1.1), .int .u64 (M.nu m.2.2.2.1.1.2), .int .u64 (M.nu m.2.2.2.1.2.1), .int .u64 (M.nu m.2.2.2.1.2.2), .int .i64 m.2.2.2.2]), .int .u64 i] w fun e w' => e = .returned (.tuple #[.slice none 0 0, .slice none 0 0, .int .i64 1]) ∧ Below w.heap.size w w' := by
  have M0 := hidq (Bx9.new w m)
  have U0 := hidq (u.alloc (.cells #[.bool m.1, .bool m.2.1, .int .u64 (M.nu m.2.2.1.1), .int .u64 (M.nu m.2.2.1.2), .int .u64 (M.nu m.2.2.2.1.1.1), .int .u64 (M.nu m.2.2.2.1.1.2), .int .u64 (M.nu m.2.2.2.1.2.1), .int .u64 (M.nu m.2.2.2.1.2.2), .int .i64 m.2.2.2.2] 29))
  have B0 := hidq (show Below w.heap.size w (w.alloc (.cells #[.bool m.1, .bool m.2.1, .int .u64 (M.nu m.2.2.1.1), .int .u64 (M.nu m.2.2.1.2), .int .u64 (M.nu m.2.2.2.1.1.1), .int .u64 (M.nu m.2.2.2.1.1.2), .int .u64 (M.nu m.2.2.2.1.2.1), .int .u64 (M.nu m.2.2.2.1.2.2), .int .i64 m.2.2.2.2] 29)) from below_one (Below.refl _ _))
  have SP := hidq (fun W => spairs_any h k i W h0 h1)
  clear u
  by_cases hE : M.prsE h k i = 0
  · rw [decide_eq_true hE, Bool.true_and] at hx
    rw [hE] at SP
    by_cases hO : M.Ok A
    · have HC := hidq (show M.chkE A = 0 from if_pos hO)
      have HH := hidq ((M.had_opn hO).trans hx)
      generalize M.prsL h k i = C at *
      clear hx hE hO
      go_enter Tryz.func5, Tryz.ntmps5
      go_wp2_with (first | (go_at_call 12; refine (SP.out _).mono ?_; rintro e w1 ⟨v1, rfl, s1, hb1⟩; have S1 := hidq s1; have U1 := hidq (U0.out.below hb1); have M1 := hidq (M0.out.below hb1); have cm1 := M1.out.cells; have B1 := hidq (below_trans B0.out hb1); clear s1 hb1) | (go_at_call 14; refine (check_eq HC.out _ U1.out).mono ?_; rintro e w2 ⟨rfl, hb2⟩; have U2 := hidq (U1.out.below hb2); have S2 := hidq (S1.out.below hb2); have M2 := hidq (M1.out.below hb2); have cm2 := M2.out.cells; have B2 := hidq (below_trans B1.out hb2); clear hb2) | (go_at_call 15; refine (had_any HH.out _ U2.out).mono ?_; rintro e w3 ⟨rfl, hb3⟩; have U3 := hidq (U2.out.below hb3); have S3 := hidq (S2.out.below hb3); have M3 := hidq (M2.out.below hb3); have cm3 := M3.out.cells; have B3 := hidq (below_trans B2.out hb3); clear hb3))
      go_ret3
      exact ⟨rfl, B3.out⟩
    · have HC := hidq (show M.chkE A = 1 from if_neg hO)
      generalize M.prsL h k i = C at *
      clear hx hE hO
      go_enter Tryz.func5, Tryz.ntmps5
      go_wp2_with (first | (go_at_call 12; refine (SP.out _).mono ?_; rintro e w1 ⟨v1, rfl, s1, hb1⟩; have S1 := hidq s1; have U1 := hidq (U0.out.below hb1); have M1 := hidq (M0.out.below hb1); have cm1 := M1.out.cells; have B1 := hidq (below_trans B0.out hb1); clear s1 hb1) | (go_at_call 14; refine (check_eq HC.out _ U1.out).mono ?_; rintro e w2 ⟨rfl, hb2⟩; have U2 := hidq (U1.out.below hb2); have S2 := hidq (S1.out.below hb2); have M2 := hidq (M1.out.below hb2); have cm2 := M2.out.cells; have B2 := hidq (below_trans B1.out hb2); clear hb2))
      go_ret3
      exact ⟨rfl, B2.out⟩
  · generalize M.prsL h k i = C at *
    generalize M.prsE h k i = n at *
    have hEb : (n == 0) = false := by rw [beq_eq_false_iff_ne]; exact hE
    have hEc : (n != 0) = true := by simpa using hE
    clear hx hE
    go_enter Tryz.func5, Tryz.ntmps5
    go_wp2_with (first | (go_at_call 12; refine (SP.out _).mono ?_; rintro e w1 ⟨v1, rfl, s1, hb1⟩; have S1 := hidq s1; have U1 := hidq (U0.out.below hb1); have M1 := hidq (M0.out.below hb1); have cm1 := M1.out.cells; have B1 := hidq (below_trans B0.out hb1); clear s1 hb1))
    go_ret3
    exact ⟨rfl, B1.out⟩
set_option maxRecDepth 100000 in
set_option maxHeartbeats 8000000 in
theorem smake_terms {A : List M.Tm} {h k : Int} {m : M.Val} {i : Int} {E : List M.En} {L : List M.Tm} {n : Int} (hE : M.prsE h k i = 0) (ho : M.opn A m = true) (hs : m.1 = true) (hx : M.mkR h k m (M.prsL h k i) A = (E, L, n)) (h0 : 0 ≤ i) (h1 : i ≤ 18446744073709551615) {vl : Value} (w : World) (u : Ts w vl A) :
    Calls Tryz.prog 5 #[vl, .int .i64 h, .int .i64 k, (.agg #[.bool m.1, .bool m.2.1, .int .u64 (M.nu m.2.2.1.1), .int .u64 (M.nu m.2.2.1.2), .int .u64 (M.nu m.2.2.2.1.1.1), .int .u64 (M.nu m.2.2.2.1.1.2), .int .u64 (M.nu m.2.2.2.1.2.1), .int .u64 (M.nu m.2.2.2.1.2.2), .int .i64 m.2.2.2.2]), .int .u64 i] w fun e w' => ∃ v1 v2, e = .returned (.tuple #[v1, v2, .int .i64 n]) ∧ Es w' v1 E ∧ w'.ownsRow w.heap.size 39 3 v2 L.length (elTm.cells L) ∧ Below w.heap.size w w' := by
  have M0 := hidq (Bx9.new w m)
  have U0 := hidq (u.alloc (.cells #[.bool m.1, .bool m.2.1, .int .u64 (M.nu m.2.2.1.1), .int .u64 (M.nu m.2.2.1.2), .int .u64 (M.nu m.2.2.2.1.1.1), .int .u64 (M.nu m.2.2.2.1.1.2), .int .u64 (M.nu m.2.2.2.1.2.1), .int .u64 (M.nu m.2.2.2.1.2.2), .int .i64 m.2.2.2.2] 29))
  have B0 := hidq (show Below w.heap.size w (w.alloc (.cells #[.bool m.1, .bool m.2.1, .int .u64 (M.nu m.2.2.1.1), .int .u64 (M.nu m.2.2.1.2), .int .u64 (M.nu m.2.2.2.1.1.1), .int .u64 (M.nu m.2.2.2.1.1.2), .int .u64 (M.nu m.2.2.2.1.2.1), .int .u64 (M.nu m.2.2.2.1.2.2), .int .i64 m.2.2.2.2] 29)) from below_one (Below.refl _ _))
  have SP := hidq (fun W => spairs_any h k i W h0 h1)
  rw [hE] at SP
  have hOk := (M.opn_iff.1 ho).1
  have HC := hidq (show M.chkE A = 0 from if_pos hOk)
  have HH := hidq ((M.had_opn hOk).trans ho)
  obtain ⟨p, hp, hpl⟩ := M.opn_place ho hs
  have hop : M.opn A (M.ofT (p : Nat)) = true := hp ▸ ho
  have hA8 := hOk.1
  have hSb : ∀ s ∈ M.prsL h k i, M.subB h s.1 s.2 = true ∧ M.myV h k s.1 s.2 = true := fun s hs => ⟨M.prs_sub h0 hE hs, (M.prs_in h0 hE hs).2.2.2⟩
  have hSf : ∀ s ∈ M.prsL h k i, 0 ≤ s.1 ∧ s.1 ≤ 18446744073709551615 ∧ 0 ≤ s.2 ∧ s.2 ≤ 18446744073709551615 := fun s hs => M.sub_fit14 (M.prs_sub h0 hE hs)
  have hln := M.pm_small h0 hE
  have hln6 := M.pm_small6 h0 hE
  obtain ⟨E0, F, a1, a2, a3, a4, a5, a6, a7, a8⟩ := M.make_terms (h := h) (k := k) hSb hln6 hop
  rw [hp] at hx
  have HBt := hidq (show ∀ (vl vc : Value) (W : World) (_ : Ts W vl A) (_ : Ss W vc (M.prsL h k i)), Calls Tryz.prog 16 #[vl, .int .i64 h, .int .i64 k, .int .i64 m.2.2.2.2, vc] W fun e w' => ∃ v1 v2, e = .returned (.tuple #[v1, v2, .int .i64 n]) ∧ Es w' v1 E ∧ w'.ownsRow W.heap.size 39 3 v2 L.length (elTm.cells L) ∧ Below W.heap.size W w' from fun vl vc W u us => by
    have hm : m.2.2.2.2 = (p : Int) := by rw [hp]; rfl
    rw [hm]
    have hpf : M.fitI (p : Int) := ⟨by omega, by omega⟩
    rcases a8 with ⟨L', ps, b1, b2, b3, -⟩ | ⟨b1, b3⟩
    · rw [b3] at hx
      simp only [Prod.mk.injEq] at hx
      obtain ⟨rfl, rfl, rfl⟩ := hx
      have := sbyterms_eq a1 a2 a4 a7 a6 b1 (fun _ => b2) hOk hpf hln hSf a5 W u us
      rwa [if_pos rfl] at this
    · rw [b3] at hx
      simp only [Prod.mk.injEq] at hx
      obtain ⟨rfl, rfl, rfl⟩ := hx
      have := sbyterms_eq a1 a2 a4 a7 a6 b1 (fun h => by cases h) hOk hpf hln hSf a5 W u us
      rwa [if_neg (by decide)] at this)
  have HS := hidq hs
  clear hs hx a1 a2 a3 a4 a5 a6 a7 a8 hSb hSf hln hln6 hop hp hpl hOk hA8 ho hE u
  generalize M.prsL h k i = C at *
  go_enter Tryz.func5, Tryz.ntmps5
  go_upto_region 4 with (first | (go_at_call 12; refine (SP.out _).mono ?_; rintro e w1 ⟨v1, rfl, s1, hb1⟩; have S1 := hidq s1; have U1 := hidq (U0.out.below hb1); have M1 := hidq (M0.out.below hb1); have cm1 := M1.out.cells; have B1 := hidq (below_trans B0.out hb1); clear s1 hb1) | (go_at_call 14; refine (check_eq HC.out _ U1.out).mono ?_; rintro e w2 ⟨rfl, hb2⟩; have U2 := hidq (U1.out.below hb2); have S2 := hidq (S1.out.below hb2); have M2 := hidq (M1.out.below hb2); have cm2 := M2.out.cells; have B2 := hidq (below_trans B1.out hb2); clear hb2) | (go_at_call 15; refine (had_any HH.out _ U2.out).mono ?_; rintro e w3 ⟨rfl, hb3⟩; have U3 := hidq (U2.out.below hb3); have S3 := hidq (S2.out.below hb3); have M3 := hidq (M2.out.below hb3); have cm3 := M3.out.cells; have B3 := hidq (below_trans B2.out hb3); clear hb3))
  have hs := HS.out
  rw [hs] at cm3
  go_wp2_with (first | (go_at_call 16; refine (HBt.out _ _ _ U3.out S3.out).mono ?_; rintro e w4 ⟨v4, v5, rfl, e4, o4, hb4⟩; have hz := B3.out.size; have E4 := hidq e4; have O4 := hidq (own_lowerq o4 hz); have B4 := hidq (below_trans B3.out hb4); clear e4 o4 hb4 hz))
  go_ret3
  exact ⟨_, _, rfl, E4.out, O4.out, B4.out⟩
set_option maxRecDepth 100000 in
set_option maxHeartbeats 8000000 in
theorem smake_octets {A : List M.Tm} {h k : Int} {m : M.Val} {i : Int} {E : List M.En} {L : List M.Tm} {n : Int} (hE : M.prsE h k i = 0) (ho : M.opn A m = true) (hs : m.1 = false) (hx : M.mkR h k m (M.prsL h k i) A = (E, L, n)) (h0 : 0 ≤ i) (h1 : i ≤ 18446744073709551615) {vl : Value} (w : World) (u : Ts w vl A) :
    Calls Tryz.prog 5 #[vl, .int .i64 h, .int .i64 k, (.agg #[.bool m.1, .bool m.2.1, .int .u64 (M.nu m.2.2.1.1), .int .u64 (M.nu m.2.2.1.2), .int .u64 (M.nu m.2.2.2.1.1.1), .int .u64 (M.nu m.2.2.2.1.1.2), .int .u64 (M.nu m.2.2.2.1.2.1), .int .u64 (M.nu m.2.2.2.1.2.2), .int .i64 m.2.2.2.2]), .int .u64 i] w fun e w' => ∃ v1 v2, e = .returned (.tuple #[v1, v2, .int .i64 n]) ∧ Es w' v1 E ∧ w'.ownsRow w.heap.size 39 3 v2 L.length (elTm.cells L) ∧ Below w.heap.size w w' := by
  have M0 := hidq (Bx9.new w m)
  have U0 := hidq (u.alloc (.cells #[.bool m.1, .bool m.2.1, .int .u64 (M.nu m.2.2.1.1), .int .u64 (M.nu m.2.2.1.2), .int .u64 (M.nu m.2.2.2.1.1.1), .int .u64 (M.nu m.2.2.2.1.1.2), .int .u64 (M.nu m.2.2.2.1.2.1), .int .u64 (M.nu m.2.2.2.1.2.2), .int .i64 m.2.2.2.2] 29))
  have B0 := hidq (show Below w.heap.size w (w.alloc (.cells #[.bool m.1, .bool m.2.1, .int .u64 (M.nu m.2.2.1.1), .int .u64 (M.nu m.2.2.1.2), .int .u64 (M.nu m.2.2.2.1.1.1), .int .u64 (M.nu m.2.2.2.1.1.2), .int .u64 (M.nu m.2.2.2.1.2.1), .int .u64 (M.nu m.2.2.2.1.2.2), .int .i64 m.2.2.2.2] 29)) from below_one (Below.refl _ _))
  have SP := hidq (fun W => spairs_any h k i W h0 h1)
  rw [hE] at SP
  have hOk := (M.opn_iff.1 ho).1
  have HC := hidq (show M.chkE A = 0 from if_pos hOk)
  have HH := hidq ((M.had_opn hOk).trans ho)
  have HA8 := hidq hOk.1
  have hSb : ∀ s ∈ M.prsL h k i, M.subB h s.1 s.2 = true ∧ M.myV h k s.1 s.2 = true := fun s hs => ⟨M.prs_sub h0 hE hs, (M.prs_in h0 hE hs).2.2.2⟩
  have hSf : ∀ s ∈ M.prsL h k i, 0 ≤ s.1 ∧ s.1 ≤ 18446744073709551615 ∧ 0 ≤ s.2 ∧ s.2 ≤ 18446744073709551615 := fun s hs => M.sub_fit14 (M.prs_sub h0 hE hs)
  have hln := M.pm_small h0 hE
  obtain ⟨E0, hE0⟩ := M.make_octets (h := h) (k := k) (m := m) (M.prsL h k i) hSb ho hs
  have hnil := hE0 [] (M.opn_none ho hs)
  rw [hE0 A ho] at hx
  simp only [Prod.mk.injEq] at hx
  obtain ⟨rfl, rfl, rfl⟩ := hx
  have HEn := hidq (fun (vl vc : Value) (W : World) (u : Ts W vl []) (us : Ss W vc (M.prsL h k i)) => sentries_eq hnil hln hSf W u us)
  obtain ⟨al, cl, rfl, -⟩ := u.form
  have HS := hidq hs
  clear hs hSb hSf hln ho hE u hE0 hnil hOk
  generalize M.prsL h k i = C at *
  go_enter Tryz.func5, Tryz.ntmps5
  go_upto_region 4 with (first | (go_at_call 12; refine (SP.out _).mono ?_; rintro e w1 ⟨v1, rfl, s1, hb1⟩; have S1 := hidq s1; have U1 := hidq (U0.out.below hb1); have M1 := hidq (M0.out.below hb1); have cm1 := M1.out.cells; have B1 := hidq (below_trans B0.out hb1); clear s1 hb1) | (go_at_call 14; refine (check_eq HC.out _ U1.out).mono ?_; rintro e w2 ⟨rfl, hb2⟩; have U2 := hidq (U1.out.below hb2); have S2 := hidq (S1.out.below hb2); have M2 := hidq (M1.out.below hb2); have cm2 := M2.out.cells; have B2 := hidq (below_trans B1.out hb2); clear hb2) | (go_at_call 15; refine (had_any HH.out _ U2.out).mono ?_; rintro e w3 ⟨rfl, hb3⟩; have U3 := hidq (U2.out.below hb3); have S3 := hidq (S2.out.below hb3); have M3 := hidq (M2.out.below hb3); have cm3 := M3.out.cells; have B3 := hidq (below_trans B2.out hb3); clear hb3))
  have hs := HS.out
  rw [hs] at cm3
  go_upto_region 6 with fail
  clear hs
  rw [← HS.out] at cm3
  go_wp2_with (first | (go_at_call 17; refine (HEn.out _ _ _ (Sl.nil _ _) S3.out).mono ?_; rintro e w4 ⟨v4, v5, rfl, o4, ok4, t4, hb4⟩; obtain ⟨a4, c4, rfl, -⟩ := own_formq o4; have E4 := hidq (show Es w4 (.slice a4 E0.length c4) E0 from Sl.of_own (E := elEnt) o4 ok4); have U4 := hidq (U3.out.below hb4); have B4 := hidq (below_trans B3.out hb4); clear o4 ok4 t4 hb4) | (go_at_call 18; refine (cloneT_any A HA8.out _ _ U4.out).mono ?_; rintro e w5 ⟨v5, rfl, o5, hb5⟩; have hz := B4.out.size; have O5 := hidq (own_lowerq o5 hz); have E5 := hidq (E4.out.below hb5); have B5 := hidq (below_trans B4.out hb5); clear o5 hb5 hz))
  go_ret3
  exact ⟨_, _, rfl, E5.out, O5.out, B5.out⟩
set_option maxRecDepth 100000 in
theorem smake_eq {A : List M.Tm} {h k : Int} {m : M.Val} {i : Int} {E : List M.En} {L : List M.Tm} {n : Int} (hx : M.makA A h k m i = (E, L, n)) (h0 : 0 ≤ i) (h1 : i ≤ 18446744073709551615) {vl : Value} (w : World) (u : Ts w vl A) :
    Calls Tryz.prog 5 #[vl, .int .i64 h, .int .i64 k, (.agg #[.bool m.1, .bool m.2.1, .int .u64 (M.nu m.2.2.1.1), .int .u64 (M.nu m.2.2.1.2), .int .u64 (M.nu m.2.2.2.1.1.1), .int .u64 (M.nu m.2.2.2.1.1.2), .int .u64 (M.nu m.2.2.2.1.2.1), .int .u64 (M.nu m.2.2.2.1.2.2), .int .i64 m.2.2.2.2]), .int .u64 i] w fun e w' => ∃ v1 v2, e = .returned (.tuple #[v1, v2, .int .i64 n]) ∧ Es w' v1 E ∧ w'.ownsRow w.heap.size 39 3 v2 L.length (elTm.cells L) ∧ Below w.heap.size w w' := by
  unfold M.makA at hx
  cases hc : (decide (M.prsE h k i = 0) && M.opn A m) with
  | true =>
    rw [if_pos hc] at hx
    simp only [Bool.and_eq_true, decide_eq_true_eq] at hc
    rcases Bool.eq_false_or_eq_true m.1 with hs | hs
    · exact smake_terms hc.1 hc.2 hs hx h0 h1 w u
    · exact smake_octets hc.1 hc.2 hs hx h0 h1 w u
  | false =>
    rw [if_neg (by rw [hc]; decide)] at hx
    simp only [Prod.mk.injEq] at hx
    obtain ⟨rfl, rfl, rfl⟩ := hx
    refine (smake_no hc h0 h1 w u).mono ?_
    rintro e w' ⟨rfl, hb⟩
    exact ⟨_, _, rfl, Sl.nil _ _, World.ownsRow_nil _ _ _ _, hb⟩
end Go.Proofs.YthmiekinjfaflaaGreat
