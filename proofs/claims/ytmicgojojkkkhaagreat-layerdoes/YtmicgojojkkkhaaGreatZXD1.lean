/-
  What layer.May and Bound answer at every input. Conditions: the numbers fit their kind.
-/
import Derived.Test.YtmicgojojkkkhaaGreatZJ5
import Derived.Test.YtmicgojojkkkhaaGreatZX3
import Derived.Test.YtmicgojojkkkhaaGreatZX5
import Derived.Test.YtmicgojojkkkhaaGreatZXD30
import Derived.Test.YtmicgojojkkkhaaGreatZXO0
namespace Go.Proofs.YtmicgojojkkkhaaGreat
open Go.RowKit
theorem M.kB_not {k : Int} (hk : M.kB k = false) : ¬ k = 1 ∧ ¬ k = 2 ∧ ¬ k = 3 := by
  unfold M.kB at hk
  simp only [Bool.and_eq_false_iff, decide_eq_false_iff_not] at hk
  omega
set_option maxRecDepth 100000 in
set_option maxHeartbeats 2000000 in
theorem lmay_any (h k I J : Int) (w : World) (h0 : 0 ≤ I) (h1 : I ≤ 18446744073709551615) (h2 : 0 ≤ J) (h3 : J ≤ 18446744073709551615) :
    Calls Tryz.prog 9 #[.int .i64 h, .int .i64 k, .agg #[.int .u64 I, .int .u64 J]] w fun e w' => e = .returned (.tuple #[.bool (M.myV h k I J), .int .i64 (M.myE h k I J)]) ∧ Below w.heap.size w w' := by
  have HA := hidq (fun o => (Below.refl _ w).alloc (Nat.le_refl w.heap.size) o)
  have hX := Bi.new w 25 I J
  obtain ⟨X0a, X0b⟩ := hX.facts
  cases hs : M.subB h I J with
  | false =>
    rw [show M.myV h k I J = false by unfold M.myV; rw [hs, Bool.and_false]; rfl, show M.myE h k I J = 1 by unfold M.myE; rw [hs, Bool.and_false]; rfl]
    have hse := M.subE_no hs
    go_enter Tryz.func9, Tryz.ntmps9
    go_wp2_with (first | (go_at_call 27; refine (check8_any h I J _ h0 h1 h2 h3).mono ?_; rw [hse]; rintro e w1 ⟨rfl, hb1⟩; have X1 := (Bi.new w 25 I J).below hb1; obtain ⟨X1a, X1b⟩ := X1.facts; have hB1 := below_trans (HA.out _) hb1))
    go_ret2
    exact ⟨rfl, hB1⟩
  | true =>
    have hse := M.subE_yes hs
    cases hk : M.kB k with
    | false =>
      rw [show M.myV h k I J = false by unfold M.myV; rw [hk]; rfl, show M.myE h k I J = 1 by unfold M.myE; rw [hk]; rfl]
      obtain ⟨k1, k2, k3⟩ := M.kB_not hk
      have k4 : (k == 1) = false := by rw [beq_eq_false_iff_ne]; exact k1
      have k5 : (k == 2) = false := by rw [beq_eq_false_iff_ne]; exact k2
      have k6 : (k == 3) = false := by rw [beq_eq_false_iff_ne]; exact k3
      go_enter Tryz.func9, Tryz.ntmps9
      go_wp2_with (first | (go_at_call 27; refine (check8_any h I J _ h0 h1 h2 h3).mono ?_; rw [hse]; rintro e w1 ⟨rfl, hb1⟩; have X1 := (Bi.new w 25 I J).below hb1; obtain ⟨X1a, X1b⟩ := X1.facts; have hB1 := below_trans (HA.out _) hb1))
      go_ret2
      exact ⟨rfl, hB1⟩
    | true =>
      unfold M.myV M.myE
      rw [hk, hs]
      rcases M.kB_of hk with rfl | rfl | rfl
      · rw [if_pos rfl]
        by_cases hJ : J = 0
        · rw [decide_eq_true hJ]
          subst hJ
          go_enter Tryz.func9, Tryz.ntmps9
          go_wp2_with (first | (go_at_call 27; refine (check8_any h I _ _ h0 h1 (by omega) (by omega)).mono ?_; rw [hse]; rintro e w1 ⟨rfl, hb1⟩; have X1 := (Bi.new w 25 I _).below hb1; obtain ⟨X1a, X1b⟩ := X1.facts; have hB1 := below_trans (HA.out _) hb1))
          go_ret2
          exact ⟨rfl, hB1⟩
        · rw [decide_eq_false hJ]
          have hJb : (J == 0) = false := by rw [beq_eq_false_iff_ne]; exact hJ
          go_enter Tryz.func9, Tryz.ntmps9
          go_wp2_with (first | (go_at_call 27; refine (check8_any h I J _ h0 h1 h2 h3).mono ?_; rw [hse]; rintro e w1 ⟨rfl, hb1⟩; have X1 := (Bi.new w 25 I J).below hb1; obtain ⟨X1a, X1b⟩ := X1.facts; have hB1 := below_trans (HA.out _) hb1))
          go_ret2
          exact ⟨rfl, hB1⟩
      · rw [if_neg (show ¬ (2 : Int) = 1 by decide), if_pos (rfl : (2 : Int) = 2)]
        obtain ⟨r, hr⟩ : ∃ r, decide (I = 1) = r := ⟨_, rfl⟩
        have hr' : (I == 1) = r := hr
        rw [hr]
        by_cases hJ : J = 0
        · rw [decide_eq_true hJ]
          subst hJ
          clear hr
          go_enter Tryz.func9, Tryz.ntmps9
          go_wp2_with (first | (go_at_call 27; refine (check8_any h I _ _ h0 h1 (by omega) (by omega)).mono ?_; rw [hse]; rintro e w1 ⟨rfl, hb1⟩; have X1 := (Bi.new w 25 I _).below hb1; obtain ⟨X1a, X1b⟩ := X1.facts; have hB1 := below_trans (HA.out _) hb1))
          go_ret2
          exact ⟨rfl, hB1⟩
        · rw [decide_eq_false hJ]
          have hJb : (J == 0) = false := by rw [beq_eq_false_iff_ne]; exact hJ
          clear hr
          go_enter Tryz.func9, Tryz.ntmps9
          go_wp2_with (first | (go_at_call 27; refine (check8_any h I J _ h0 h1 h2 h3).mono ?_; rw [hse]; rintro e w1 ⟨rfl, hb1⟩; have X1 := (Bi.new w 25 I J).below hb1; obtain ⟨X1a, X1b⟩ := X1.facts; have hB1 := below_trans (HA.out _) hb1))
          go_ret2
          exact ⟨rfl, hB1⟩
      · rw [if_neg (show ¬ (3 : Int) = 1 by decide), if_neg (show ¬ (3 : Int) = 2 by decide)]
        have huv : M.useV h I J = M.useB h I J := by unfold M.useV; rw [hs]; rfl
        generalize M.useB h I J = r at *
        go_enter Tryz.func9, Tryz.ntmps9
        go_wp2_with (first | (go_at_call 27; refine (check8_any h I J _ h0 h1 h2 h3).mono ?_; rw [hse]; rintro e w1 ⟨rfl, hb1⟩; have X1 := (Bi.new w 25 I J).below hb1; obtain ⟨X1a, X1b⟩ := X1.facts; have hB1 := below_trans (HA.out _) hb1) | (go_at_call 28; refine (useful_any h I J _ h0 h1 h2 h3).mono ?_; rw [hse, huv]; rintro e w2 ⟨rfl, hb2⟩; have hB2 := below_trans hB1 hb2))
        go_ret2
        exact ⟨rfl, hB2⟩
set_option maxRecDepth 100000 in
set_option maxHeartbeats 2000000 in
theorem lbound_any (h k many : Int) (w : World) (hm0 : -9223372036854775808 ≤ many) (hm1 : many ≤ 9223372036854775807) :
    Calls Tryz.prog 7 #[.int .i64 h, .int .i64 k, .int .i64 many] w fun e w' => e = .returned (.tuple #[.int .u64 (M.lbV h k many), .int .i64 (M.lbE h k many)]) ∧ Below w.heap.size w w' := by
  unfold M.lbV M.lbE
  cases hk : M.kB k with
  | false =>
    obtain ⟨k1, k2, k3⟩ := M.kB_not hk
    have k4 : (k == 1) = false := by rw [beq_eq_false_iff_ne]; exact k1
    have k5 : (k == 2) = false := by rw [beq_eq_false_iff_ne]; exact k2
    have k6 : (k == 3) = false := by rw [beq_eq_false_iff_ne]; exact k3
    go_enter Tryz.func7, Tryz.ntmps7
    go_wp2
    go_ret2
    exact ⟨rfl, Below.refl _ _⟩
  | true =>
    obtain ⟨b, hb⟩ : ∃ b, M.bdE h many = b := ⟨_, rfl⟩
    have hlb : (if (true && M.cntB h many) = true then (0 : Int) else 1) = b := by rw [← hb]; unfold M.bdE; rfl
    rw [hlb]
    have hbe := hb
    rcases M.kB_of hk with rfl | rfl | rfl
    · have hq : (if (true && M.cntB h many) = true then M.bdV h many else 0) = M.bdV h many := by
        unfold M.bdV
        cases M.cntB h many <;> rfl
      rw [if_pos rfl, hq]
      obtain ⟨V, hv⟩ : ∃ V, M.bdV h many = V := ⟨_, rfl⟩
      rw [hv]
      clear hq
      go_enter Tryz.func7, Tryz.ntmps7
      go_wp2_with (first | (go_at_call 23; refine (bound_any h many _ hm0 hm1).mono ?_; rw [hbe, hv]; rintro e w1 ⟨rfl, hb1⟩))
      go_ret2
      exact ⟨rfl, hb1⟩
    · rw [if_neg (show ¬ (2 : Int) = 1 by decide), if_pos (rfl : (2 : Int) = 2)]
      have hq : (if (true && M.cntB h many) = true then M.dbV h many else 0) = M.dbV h many := by
        unfold M.dbV
        cases M.cntB h many <;> rfl
      have hs : 0 ≤ M.dbV h many ∧ M.dbV h many ≤ 18446744073709551615 := by
        unfold M.dbV
        cases hc : M.cntB h many with
        | false => rw [if_neg (by decide)]; omega
        | true =>
          obtain ⟨s1, s2, s3, s4, s5⟩ := M.cnt_of hc
          rw [if_pos rfl]
          split <;> omega
      rw [hq]
      obtain ⟨V, hv⟩ : ∃ V, M.dbV h many = V := ⟨_, rfl⟩
      rw [hv] at hs ⊢
      have hw1 : IntKind.u64.wrap V = V := M.wrapu_id hs.1 (by have := hs.2; omega)
      clear hq
      go_enter Tryz.func7, Tryz.ntmps7
      go_wp2_with (first | (go_at_call 24; refine (dbound_any h many _ hm0 hm1).mono ?_; rw [hbe, hv]; rintro e w1 ⟨rfl, hb1⟩))
      go_ret2
      exact ⟨rfl, hb1⟩
    · rw [if_neg (show ¬ (3 : Int) = 1 by decide), if_neg (show ¬ (3 : Int) = 2 by decide)]
      by_cases c0 : many = 0
      · subst c0
        rw [if_pos rfl]
        have hq : (if (true && M.cntB h 0) = true then (1 : Int) else 0) = M.dbV h 0 := by
          unfold M.dbV
          cases M.cntB h 0 <;> rfl
        have hs : 0 ≤ M.dbV h 0 ∧ M.dbV h 0 ≤ 18446744073709551615 := by
          rw [← hq]
          split <;> omega
        rw [hq]
        obtain ⟨V, hv⟩ : ∃ V, M.dbV h 0 = V := ⟨_, rfl⟩
        rw [hv] at hs ⊢
        have hw1 : IntKind.u64.wrap V = V := M.wrapu_id hs.1 (by have := hs.2; omega)
        clear hq
        go_enter Tryz.func7, Tryz.ntmps7
        go_wp2_with (first | (go_at_call 24; refine (dbound_any h 0 _ (by omega) (by omega)).mono ?_; rw [hbe, hv]; rintro e w1 ⟨rfl, hb1⟩))
        go_ret2
        exact ⟨rfl, hb1⟩
      · rw [if_neg c0]
        have hq : (if (true && M.cntB h many) = true then 2 * (2 * many - 1) else 0) = 2 * M.dbV h many := by
          unfold M.dbV
          rw [if_neg c0]
          cases M.cntB h many <;> rfl
        have hs : 0 ≤ 2 * M.dbV h many ∧ 2 * M.dbV h many ≤ 18446744073709551615 := by
          rw [← hq]
          cases hc : M.cntB h many with
          | false => rw [if_neg (by decide)]; omega
          | true =>
            obtain ⟨s1, s2, s3, s4, s5⟩ := M.cnt_of hc
            rw [if_pos (by rfl)]
            omega
        rw [hq]
        obtain ⟨V, hv⟩ : ∃ V, M.dbV h many = V := ⟨_, rfl⟩
        rw [hv] at hs ⊢
        have hw1 : IntKind.u64.wrap (2 * V) = 2 * V := M.wrapu_id hs.1 (by have := hs.2; omega)
        have c4 : (many == 0) = false := by rw [beq_eq_false_iff_ne]; exact c0
        clear hq
        go_enter Tryz.func7, Tryz.ntmps7
        go_wp2_with (first | (go_at_call 24; refine (dbound_any h many _ hm0 hm1).mono ?_; rw [hbe, hv]; rintro e w1 ⟨rfl, hb1⟩))
        go_ret2
        exact ⟨rfl, hb1⟩
end Go.Proofs.YtmicgojojkkkhaaGreat
namespace Go.Proofs.YtmicgojojkkkhaaGreat
open Go.RowKit
set_option maxRecDepth 100000 in
set_option maxHeartbeats 4000000 in
theorem splitAll_any (h : Int) (X : List (Int × Int)) (v : Value) (w : World) (hu : Ss w v X) (hsub : ∀ s ∈ X, M.subB h s.1 s.2 = true) (hX : X.length ≤ 2048) :
    Calls Tryz.prog 17 #[.int .i64 h, v] w fun e w' => ∃ v', e = .returned v' ∧ Ss w' v' (X.flatMap fun s => M.spl h s.1 s.2) ∧ Below w.heap.size w w' := by
  have HFi := hidq hu.oks
  have S1 := hidq hu
  have HSu := hidq hsub
  have HCl := hidq hX
  obtain ⟨ao, cap, rfl, k1, -, p1⟩ := hu.form
  clear hu hsub hX
  generalize hN : X.length = N at *
  have HN := hidq hN
  clear hN
  obtain ⟨Pn, hPn⟩ : ∃ Pn : Nat → List (Int × Int), ∀ q, Pn q = (X.take q).flatMap (fun s => M.spl h s.1 s.2) := ⟨_, fun _ => rfl⟩
  have HP0 := hidq (show Pn 0 = [] by rw [hPn]; rfl)
  have HPN := hidq (show Pn N = X.flatMap (fun s => M.spl h s.1 s.2) by rw [hPn, List.take_of_length_le (by rw [HN.out]; exact Nat.le_refl _)])
  have HPY := hidq (fun q s (hq : X[q]? = some s) => show Pn (q + 1) = Pn q ++ M.spl h s.1 s.2 by rw [hPn, hPn]; exact M.part_take h X q s hq)
  have HPl := hidq (fun q => show (Pn q).length ≤ 4096 by
    rw [hPn]
    have := M.part_len h (X.take q)
    have h2 : (X.take q).length ≤ X.length := by rw [List.length_take]; omega
    have := HN.out
    have := HCl.out
    omega)
  have HPf := hidq (fun q => show ∀ x ∈ Pn q, 0 ≤ x.1 ∧ x.1 ≤ 18446744073709551615 ∧ 0 ≤ x.2 ∧ x.2 ≤ 18446744073709551615 from fun x hx => by
    rw [hPn] at hx
    obtain ⟨s, hs, hx⟩ := List.mem_flatMap.1 hx
    exact M.spl_fit (HSu.out s (List.mem_of_mem_take hs)) x hx)
  rw [← HPN.out]
  clear hPn
  go_enter Tryz.func17, Tryz.ntmps17
  go_wp2
  go_loopw [12, 5] (fun i x wr => ∃ q : Nat, q ≤ N ∧ i = .int .i64 q ∧ wr.ownsRow w.heap.size 25 2 x (Pn q).length (elSub.cells (Pn q)) ∧ Below w.heap.size w wr) (fun i _ _ => N - (intOf i).toNat)
  case atStart => exact ⟨0, by omega, rfl, by rw [HP0.out]; exact World.ownsRow_nil _ _ _ _, Below.refl _ _⟩
  case round =>
    obtain ⟨q, hq, rfl, hown, hb⟩ := hrel
    have HO := hidq hown
    have HB := hidq hb
    by_cases hqn : q < N
    · have hqi : (q : Int) < N := by omega
      have hN8 := HCl.out
      obtain ⟨b1, o1, rfl⟩ := p1 (by omega)
      obtain ⟨s, hs⟩ : ∃ s, X[q]? = some s := ⟨_, List.getElem?_eq_getElem (by rw [HN.out]; exact hqn)⟩
      obtain ⟨x1, x2⟩ := Ss.at (S1.out.below hb) hs
      have hm := List.mem_of_getElem? hs
      obtain ⟨f1, f2, f3, f4⟩ := HFi.out s hm
      have hsb := HSu.out s hm
      have HT := hidq (HPY.out q s hs)
      obtain ⟨y, d⟩ := s
      dsimp only at x1 x2 f1 f2 f3 f4 hsb HT
      have SC := hidq (fun W => split_all h y d W f1 f2 f3 f4)
      rw [M.spA_yes hsb, M.subE_yes hsb] at SC
      have SX := Bi.new wr 25 y d
      obtain ⟨SXa, SXb⟩ := SX.facts
      have HPs := hidq (HPl.out q)
      have HSp := hidq (M.spl_len h y d)
      generalize M.spl h y d = Z at *
      clear hs hm hsb hown hb SX f1 f2 f3 f4
      go_wp2_with (first | (go_at_call 46; refine (SC.out _).mono ?_; rintro e w5 ⟨a5, c5, rfl, s5, hb5⟩; have S5 := hidq s5; have R5 := hidq (below_trans (below_one (o := (.cells #[.int .u64 y, .int .u64 d] 25)) (Below.refl wr.heap.size wr)) hb5); clear s5 hb5) | (at_builtin; refine wpList_append_sl (E := elSub) rfl _ _ rfl w.heap.size _ _ _ rfl (own_kept HO.out R5.out) _ _ rfl S5.out (by have := HPs.out; have := HSp.out; omega) (by have := HB.out.size; have := R5.out.size; omega) ?_; intro v7 w7 hown7 hgrow7; have O7 := hidq hown7; have B7 := hidq ((below_trans HB.out R5.out).grown hgrow7 (by have := HB.out.size; have := R5.out.size; omega) (fun q hq => (HO.out.lt q hq).1)); clear hown7 hgrow7))
      go_roundw
      case rel => exact ⟨q + 1, by omega, by go_num, by rw [HT.out, List.length_append]; exact O7.out, B7.out⟩
      case measure => simp [intOf]; omega
    · obtain rfl : q = N := by omega
      have hqi : ¬ (q : Int) < q := by omega
      have HS := hidq (own_form2 hown (HPf.out q))
      clear hown hb
      go_wp2
      go_ret
      exact ⟨_, rfl, HS.out, HB.out⟩
theorem M.ldL_len4 (h : Int) (X : List (Int × Int)) (hX : X.length ≤ 2048) : (X.flatMap fun s => M.spl h s.1 s.2).length ≤ 160000 := by
  have := M.part_len h X
  omega
set_option maxRecDepth 100000 in
set_option maxHeartbeats 4000000 in
theorem lcover_any (h k : Int) (L : List Int) (v : Value) (w : World) (hu : Us w v L) :
    Calls Tryz.prog 5 #[.int .i64 h, .int .i64 k, v] w fun e w' => ∃ v', e = .returned (.tuple #[v', .int .i64 (M.lyE h k L)]) ∧ Ss w' v' (M.lyL h k L) ∧ Below w.heap.size w w' := by
  cases hk : M.kB k with
  | false =>
    obtain ⟨k1, k2, k3⟩ := M.kB_not hk
    have k4 : (k == 1) = false := by rw [beq_eq_false_iff_ne]; exact k1
    have k5 : (k == 2) = false := by rw [beq_eq_false_iff_ne]; exact k2
    have k6 : (k == 3) = false := by rw [beq_eq_false_iff_ne]; exact k3
    rw [show M.lyE h k L = 1 by unfold M.lyE; rw [hk]; rfl, show M.lyL h k L = [] by unfold M.lyL; rw [hk]; rfl]
    go_enter Tryz.func5, Tryz.ntmps5
    go_wp2
    go_ret2
    exact ⟨_, rfl, Sl.nil _ _, Below.refl _ _⟩
  | true =>
    have hE : M.lyE h k L = M.setE h L := by unfold M.lyE M.setE; rw [hk]; rfl
    have HE := hidq hE.symm
    have hno := fun (hs : M.setB h L = false) => (show ¬ M.setE h L = 0 by have := M.setE_not hs; omega)
    rcases M.kB_of hk with rfl | rfl | rfl
    · have hl : M.lyL h 1 L = M.cvL h L := by
        unfold M.lyL
        cases hs : M.setB h L with
        | true => rfl
        | false => rw [M.cvL_no (hno hs)]; rfl
      rw [hE, hl]
      clear hno hE HE hl
      go_enter Tryz.func5, Tryz.ntmps5
      go_wp2_with (first | (go_at_call 14; refine (cover_any h L _ _ hu).mono ?_; rintro e w1 ⟨v1, rfl, s1, hb1⟩; have S1 := hidq s1; have B1 := hidq hb1; clear s1 hb1))
      go_ret2
      exact ⟨_, rfl, S1.out, B1.out⟩
    · have hl : M.lyL h 2 L = M.dfL h L := by
        unfold M.lyL
        cases hs : M.setB h L with
        | true => rfl
        | false => rw [M.dfL_no (hno hs)]; rfl
      rw [hl]
      obtain ⟨X, hX⟩ : ∃ X, M.dfL h L = X := ⟨_, rfl⟩
      have HXX := hidq hX
      rw [hX]
      clear hno hE hl hX
      generalize M.lyE h 2 L = E at *
      go_enter Tryz.func5, Tryz.ntmps5
      go_wp2_with (first | (go_at_call 15; refine (dcover_any h L _ _ hu).mono ?_; rw [HE.out, HXX.out]; rintro e w1 ⟨v1, rfl, s1, hb1⟩; have S1 := hidq s1; have B1 := hidq hb1; clear s1 hb1))
      go_ret2
      exact ⟨_, rfl, S1.out, B1.out⟩
    · obtain ⟨X, hX⟩ : ∃ X, M.dfL h L = X := ⟨_, rfl⟩
      obtain ⟨Y, hY⟩ : ∃ Y, (X.flatMap fun s => M.spl h s.1 s.2) = Y := ⟨_, rfl⟩
      obtain ⟨O, hO⟩ : ∃ O, M.lyL h 3 L = O := ⟨_, rfl⟩
      have hs1 : (∀ s ∈ X, M.subB h s.1 s.2 = true) ∧ X.length ≤ 2048 ∧ M.srt Y = O := by
        rw [← hO, ← hY, ← hX]
        unfold M.lyL M.ldL
        cases hs : M.setB h L with
        | true => exact ⟨M.dfL_sub hs, M.dfL_small hs, rfl⟩
        | false => rw [M.dfL_no (hno hs)]; exact ⟨by simp, by simp, rfl⟩
      have HSu := hidq hs1.1
      have HCl := hidq hs1.2.1
      have HYs := hidq hs1.2.2
      have HXX := hidq hX
      have HYY := hidq hY
      have HYl := hidq (show Y.length ≤ 160000 by rw [← hY]; exact M.ldL_len4 h X hs1.2.1)
      rw [hO]
      clear hno hE hX hY hO hs1
      generalize M.lyE h 3 L = E at *
      go_enter Tryz.func5, Tryz.ntmps5
      go_wp2_with (first | (go_at_call 15; refine (dcover_any h L _ _ hu).mono ?_; rw [HE.out, HXX.out]; rintro e w1 ⟨v1, rfl, s1, hb1⟩; have S1 := hidq s1; have B1 := hidq hb1; clear s1 hb1) | (go_at_call 17; refine (splitAll_any h X _ _ S1.out HSu.out HCl.out).mono ?_; rw [HYY.out]; rintro e w2 ⟨v2, rfl, s2, hb2⟩; have S2 := hidq s2; have B2 := hidq (below_trans B1.out hb2); clear s2 hb2) | (go_at_call 16; refine (lorder_any Y _ _ S2.out HYl.out).mono ?_; rw [HYs.out]; rintro e w3 ⟨v3, rfl, s3, hb3⟩; have S3 := hidq s3; have B3 := hidq (below_trans B2.out hb3); clear s3 hb3))
      go_ret2
      exact ⟨_, rfl, S3.out, B3.out⟩
end Go.Proofs.YtmicgojojkkkhaaGreat
namespace Go.Proofs.YtmicgojojkkkhaaGreat
open Go.RowKit
theorem M.live12a : M.lyL 4 3 [0] = [(1, 16)] := by decide +kernel
theorem M.live12b : M.lyE 4 3 [0] = 0 := by decide +kernel
set_option maxRecDepth 100000 in
set_option maxHeartbeats 1000000 in
theorem live12_any (w : World) :
    Calls Tryz.prog 4 #[] w fun e w' => e = .returned (.bool true) ∧ Below w.heap.size w w' := by
  obtain ⟨X, hX⟩ : ∃ X : List (Int × Int), [(1, 16)] = X := ⟨_, rfl⟩
  have LA := M.live12a
  rw [hX] at LA
  have LB := M.live12b
  have HH := hidq (fun W v (u : Us W v [0]) => lcover_any 4 3 [0] v W u)
  rw [LA, LB] at HH
  have HX := hidq hX
  clear LA LB hX
  go_enter Tryz.func4, Tryz.ntmps4
  go_wp2_with (first | (go_at_call 5; refine (HH.out _ _ (Us.one _ _ _ (by omega) (by omega))).mono ?_; rintro e w1 ⟨v1, rfl, u1, hb1⟩; have U1 := hidq u1; have B1 := hidq (show Below w.heap.size w w1 from below_trans (below_one (Below.refl _ _)) hb1); clear u1 hb1) | (go_at_call 13; refine (rsameS_yes X _ _ _ (U1.out.alloc _) (by rw [← HX.out]; exact Ss.oneq _ _ 1 16 _ (by first | rfl | simp) (by omega))).mono ?_; rintro e w2 ⟨rfl, hb2⟩; have B2 := hidq (below_trans (below_one B1.out) hb2); clear hb2))
  go_ret
  exact ⟨rfl, B2.out⟩
end Go.Proofs.YtmicgojojkkkhaaGreat
