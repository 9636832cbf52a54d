/-
  The law SteinerHang returns true at every input: what hangs has all leaves that are not in the set, each below one, and none that is. Conditions: the slice holds numbers, the numbers fit their kinds.
-/
import Derived.Test.YthmiieiajfghnaaZO11
import Derived.Test.YthmiieiajfghnaaZOQ
import Derived.Test.YthmiieiajfghnaaZTR
namespace Go.Proofs.Ythmiieiajfghnaa
open Go.RowKit
theorem M.hit_bd (h i : Int) : ∀ X : List Int, 0 ≤ M.Sm (M.hit h i) X ∧ M.Sm (M.hit h i) X ≤ X.length
  | [] => by simp [M.Sm]
  | x :: t => by
    have := M.hit_bd h i t
    have h2 : 0 ≤ M.hit h i x ∧ M.hit h i x ≤ 1 := by unfold M.hit; split <;> omega
    rw [M.Sm, List.length_cons]; omega
theorem M.thV_len {h : Int} {L : List Int} (hl : L.length ≤ 30) : (M.thV h L).length ≤ 4000 := by
  unfold M.thV
  by_cases e : M.setE h L = 0
  · rw [if_pos e]
    by_cases h0 : L.length = 0
    · rw [if_pos h0]; simp
    · rw [if_neg h0]
      have := M.flat_len (M.outk_len h L) (M.tree h L)
      have := (M.tree_facts (M.setE_zero.1 e)).2.2
      omega
  · rw [if_neg e]; simp
set_option maxRecDepth 100000 in
set_option maxHeartbeats 4000000 in
theorem steinerHang_long (h : Int) (L : List Int) (v : Value) (i : Int) (w : World) (hu : Us w v L) (hl : ¬ L.length ≤ 30) :
    Calls Try.prog 5 #[.int .i64 h, v, .int .u64 i] w fun e w' => e = .returned (.bool true) ∧ Below w.heap.size w w' := by
  obtain ⟨ao, cap, rfl, -⟩ := us_view hu
  have hB0 := Below.refl w.heap.size w
  have U0 := hu
  have hli : (30 : Int) < L.length := by omega
  clear hl hu
  have T1 := hidq trivial
  go_enter Try.func5, Try.ntmps5
  go_wp2_with (first | (go_at_call 9; clear T1; refine (live9_any _).mono ?_; rintro e w1 ⟨rfl, hb1⟩; have U1 := (U0.below hb1); clear U0; have hB1 := below_trans hB0 hb1))
  go_ret
  exact ⟨rfl, hB1⟩
set_option maxRecDepth 100000 in
set_option maxHeartbeats 4000000 in
theorem steinerHang_no (h : Int) (L : List Int) (v : Value) (i : Int) (w : World) (hu : Us w v L) (hl : L.length ≤ 30) (hs : ¬ M.setE h L = 0) :
    Calls Try.prog 5 #[.int .i64 h, v, .int .u64 i] w fun e w' => e = .returned (.bool true) ∧ Below w.heap.size w w' := by
  have HC := hidq (fun W v (u : Us W v L) => stHang_any h L v W u)
  rw [show M.thV h L = [] by unfold M.thV; rw [if_neg hs], M.setE_one hs] at HC
  obtain ⟨ao, cap, rfl, -⟩ := us_view hu
  have hB0 := Below.refl w.heap.size w
  have U0 := hu
  have hli : ¬ (30 : Int) < L.length := by omega
  have T1 := hidq trivial
  have T2 := hidq trivial
  clear hl hu hs
  go_enter Try.func5, Try.ntmps5
  go_wp2_with (first | (go_at_call 9; clear T1; refine (live9_any _).mono ?_; rintro e w1 ⟨rfl, hb1⟩; have U1 := (U0.below hb1); clear U0; have hB1 := below_trans hB0 hb1) | (go_at_call 18; clear T2; refine (HC.out _ _ U1).mono ?_; rintro e w2 ⟨x, rfl, X2, hb2⟩; have U2 := (U1.below hb2); clear U1; have hB2 := below_trans hB1 hb2; obtain ⟨aX2, cX2, rfl, -, vX2⟩ := us_view X2))
  go_ret
  exact ⟨rfl, hB2⟩
set_option maxRecDepth 100000 in
set_option maxHeartbeats 8000000 in
theorem steinerHang_yes (h : Int) (L : List Int) (v : Value) (i : Int) (w : World) (hu : Us w v L) (h0 : 0 ≤ i) (h1 : i ≤ 18446744073709551615) (hl : L.length ≤ 30) (hs : M.setB h L = true) :
    Calls Try.prog 5 #[.int .i64 h, v, .int .u64 i] w fun e w' => e = .returned (.bool true) ∧ Below w.heap.size w w' := by
  have HC := hidq (fun W v (u : Us W v L) => stHang_any h L v W u)
  have HA := hidq (fun W v (u : Us W v L) => has_any h L v i W u h0 h1)
  have BC := hidq (fun W v c (u : Us W v L) => bel_any h L v c W u)
  obtain ⟨p1, p2, p3, p4⟩ := M.hang_facts hs
  have hHl := M.thV_len (h := h) hl
  rw [M.setE_zero.2 hs] at HC
  obtain ⟨s1, s2, -⟩ := M.set_of hs
  have hp32 := M.p2_32 s2
  have hpp := M.p2_pos h
  have ht := M.ht_mk s1 s2
  have r1 : M.lowV h 1 = 0 := M.lowV_one h
  have r2 : M.highV h 1 = M.p2 h - 1 := by rw [M.highV_one, ht]; rfl
  have r3 : M.eChk h 1 = 0 := by rw [M.eChk_one, ht]; rfl
  generalize M.thV h L = H at *
  have HP := hidq (fun (k : Nat) (hk : k < H.length) => p2 (H[k]?.getD 0) (by rw [List.getElem?_eq_getElem hk]; exact List.getElem_mem hk))
  have HR := hidq (fun (k : Nat) (hk : k + 1 < H.length) => show H[k]?.getD 0 < H[k + 1]?.getD 0 by
    rw [List.getElem?_eq_getElem hk, List.getElem?_eq_getElem (show k < H.length by omega)]
    exact List.pairwise_iff_getElem.1 p1 k (k + 1) (by omega) hk (by omega))
  have hwid : ∀ x ∈ H, 0 ≤ M.wid h x := fun x hx => by have := M.low_bd (p2 x hx).1; unfold M.wid; omega
  have HSum := hidq (fun k => M.Sm_part hwid k)
  have HW := hidq (fun (k : Nat) (hk : k < H.length) => M.Sm_take (f := M.wid h) hk)
  have HH := hidq (fun (k : Nat) (hk : k < H.length) => M.Sm_take (f := M.hit h i) hk)
  have HB := hidq (fun (k : Nat) => show 0 ≤ M.Sm (M.hit h i) (H.take k) ∧ M.Sm (M.hit h i) (H.take k) ≤ 4000 by
    have := M.hit_bd h i (H.take k)
    rw [List.length_take] at this; omega)
  have hE1 : M.Sm (M.wid h) (H.take H.length) = M.p2 h - L.length := by rw [List.take_length]; omega
  have HE2 := hidq (show 0 ≤ i → i < M.p2 h → M.Sm (M.hit h i) (H.take H.length) = if i ∈ L then 0 else 1 by rw [List.take_length]; exact p4 i)
  obtain ⟨ao, cap, rfl, -⟩ := us_view hu
  have hB0 := Below.refl w.heap.size w
  have U0 := hu
  have hli : ¬ (30 : Int) < L.length := by omega
  have T1 := hidq trivial
  have T2 := hidq trivial
  have HS := hidq hs
  clear hu hs p1 p2 p4 hwid ht
  go_enter Try.func5, Try.ntmps5
  go_wp2_with (first | (go_at_call 9; clear T1; refine (live9_any _).mono ?_; rintro e w1 ⟨rfl, hb1⟩; have U1 := (U0.below hb1); clear U0; have hB1 := below_trans hB0 hb1) | (go_at_call 18; clear T2; refine (HC.out _ _ U1).mono ?_; rintro e w2 ⟨x, rfl, X2, hb2⟩; have U2 := (U1.below hb2); clear U1; have hB2 := below_trans hB1 hb2; obtain ⟨aX2, cX2, rfl, -, vX2⟩ := us_view X2) | (go_at_call 25; refine (HA.out _ _ U2).mono ?_; rintro e w3 ⟨rfl, hb3⟩; have U3 := (U2.below hb3); have X3 := (X2.below hb3); clear U2 X2; have hB3 := below_trans hB2 hb3))
  generalize hN : H.length = N at *
  have HN := hidq hN
  clear hN
  go_loopw [50, 10, 11] (fun a b c wr => ∃ (j : Nat), j ≤ N ∧ a = .int .i64 j ∧ b = .int .u64 (M.Sm (M.wid h) (H.take j)) ∧ c = .int .i64 (M.Sm (M.hit h i) (H.take j)) ∧ Below w3.heap.size w3 wr) (fun a _ _ _ => N - (intOf a).toNat)
  case atStart => exact ⟨0, by omega, rfl, rfl, rfl, Below.refl _ _⟩
  case round =>
    obtain ⟨j, hj, rfl, rfl, rfl, hb⟩ := hrel
    have BX := hidq hb
    by_cases hjn : j < N
    · have hji : (j : Int) < N := by omega
      obtain ⟨bF, oF, rfl, -⟩ := vX2 (by omega)
      have hjl : j < H.length := by rw [HN.out]; exact hjn
      have yc := (X3.below hb).cellAt j hjl
      obtain ⟨hyk, e4, e5⟩ := HP.out j hjn
      have q1 := HW.out j hjn
      have q2 := HH.out j hjn
      have q3 := HSum.out (j + 1)
      have q4 := HSum.out j
      have q5 := HB.out j
      have HZ := hidq (fun (k : Nat) (hk : j = k + 1) => show H[k]?.getD 0 < H[j]?.getD 0 ∧ (∀ W, Us W (.slice (some ⟨bF, oF, none⟩) N cX2) H → W.cell? ⟨bF, oF + k, none⟩ = some (.int .u64 (H[k]?.getD 0))) by
        subst hk
        exact ⟨HR.out k hjn, fun W u => u.cellAt k (by omega)⟩)
      generalize H[j]?.getD 0 = y at *
      have hlb := M.low_bd hyk
      have hy0 : 0 ≤ y := by have := (M.ok_of hyk).2.2.1; omega
      have hy1 : y ≤ 18446744073709551615 := by have := M.ok_lt hyk; omega
      have e1 := M.lowV_ok hyk
      have e2 := M.highV_ok hyk
      have e3 := M.eChk_ok hyk
      have hwd : M.wid h y = M.high h y - M.low h y + 1 := rfl
      have hht : M.hit h i y = if M.low h y ≤ i ∧ i ≤ M.high h y then 1 else 0 := rfl
      rw [hwd] at q1
      rw [hht] at q2
      have hj4 : (j : Int) < 4000 := by omega
      have hst : M.Sm (M.wid h) H ≤ 4294967296 := by omega
      generalize M.low h y = lo at *
      generalize M.high h y = hi at *
      generalize hA1 : M.Sm (M.wid h) (H.take (j + 1)) = A1 at *
      generalize hA0 : M.Sm (M.wid h) (H.take j) = A0 at *
      generalize hC1 : M.Sm (M.hit h i) (H.take (j + 1)) = C1 at *
      generalize hC0 : M.Sm (M.hit h i) (H.take j) = C0 at *
      have hw1 : IntKind.u64.wrap (hi - lo) = hi - lo := M.wrapu_id (by omega) (by omega)
      have hw2 : IntKind.u64.wrap (hi - lo + 1) = hi - lo + 1 := M.wrapu_id (by omega) (by omega)
      have hw3 : IntKind.u64.wrap (A0 + (hi - lo + 1)) = A1 := by rw [M.wrapu_id (by omega) (by omega)]; omega
      have hw4 : IntKind.i64.wrap (C0 + 1) = C0 + 1 := by rw [IntKind.wrap_i64]; omega
      have HA1 := hidq hA1
      have HC1 := hidq hC1
      clear hA1 hA0 hC1 hC0 hwd hht hb hjl hyk q1 q3 q4
      by_cases hj0 : ¬ (0 : Int) < j
      · clear HZ
        by_cases g1 : lo ≤ i
        · by_cases g2 : i ≤ hi
          · rw [if_pos ⟨g1, g2⟩] at q2
            go_wp2_with (first | (go_at_call 26; refine (leaves_any h y _ hy0 hy1).mono ?_; rw [e1, e2, e3]; rintro e w5 ⟨rfl, hb5⟩; have D5 := (Bd.new w5 41 lo hi); obtain ⟨D5a, D5b⟩ := D5.facts; have B5 := hidq (below_one (o := (.cells #[.int .u64 lo, .int .u64 hi] 41)) (below_trans BX.out hb5)); have X5 := (X3.below B5.out); clear hb5) | (go_at_call 27; refine (BC.out _ _ y (U3.below B5.out) hy0 hy1).mono ?_; rw [e4, e5]; rintro e w6 ⟨v6, rfl, ho6, hb6⟩; obtain ⟨a6, c6, rfl, -⟩ := us_view (Us.of_own ho6 (by simp)); have B6 := hidq (below_trans B5.out hb6); clear ho6 hb6))
            go_roundw
            case rel => exact ⟨j + 1, by omega, by go_num, by rw [HA1.out], by rw [HC1.out, q2], B6.out⟩
            case measure => simp [intOf]; omega
          · rw [if_neg (fun x => g2 x.2), Int.add_zero] at q2
            go_wp2_with (first | (go_at_call 26; refine (leaves_any h y _ hy0 hy1).mono ?_; rw [e1, e2, e3]; rintro e w5 ⟨rfl, hb5⟩; have D5 := (Bd.new w5 41 lo hi); obtain ⟨D5a, D5b⟩ := D5.facts; have B5 := hidq (below_one (o := (.cells #[.int .u64 lo, .int .u64 hi] 41)) (below_trans BX.out hb5)); have X5 := (X3.below B5.out); clear hb5) | (go_at_call 27; refine (BC.out _ _ y (U3.below B5.out) hy0 hy1).mono ?_; rw [e4, e5]; rintro e w6 ⟨v6, rfl, ho6, hb6⟩; obtain ⟨a6, c6, rfl, -⟩ := us_view (Us.of_own ho6 (by simp)); have B6 := hidq (below_trans B5.out hb6); clear ho6 hb6))
            go_roundw
            case rel => exact ⟨j + 1, by omega, by go_num, by rw [HA1.out], by rw [HC1.out, q2], B6.out⟩
            case measure => simp [intOf]; omega
        · rw [if_neg (fun x => g1 x.1), Int.add_zero] at q2
          go_wp2_with (first | (go_at_call 26; refine (leaves_any h y _ hy0 hy1).mono ?_; rw [e1, e2, e3]; rintro e w5 ⟨rfl, hb5⟩; have D5 := (Bd.new w5 41 lo hi); obtain ⟨D5a, D5b⟩ := D5.facts; have B5 := hidq (below_one (o := (.cells #[.int .u64 lo, .int .u64 hi] 41)) (below_trans BX.out hb5)); have X5 := (X3.below B5.out); clear hb5) | (go_at_call 27; refine (BC.out _ _ y (U3.below B5.out) hy0 hy1).mono ?_; rw [e4, e5]; rintro e w6 ⟨v6, rfl, ho6, hb6⟩; obtain ⟨a6, c6, rfl, -⟩ := us_view (Us.of_own ho6 (by simp)); have B6 := hidq (below_trans B5.out hb6); clear ho6 hb6))
          go_roundw
          case rel => exact ⟨j + 1, by omega, by go_num, by rw [HA1.out], by rw [HC1.out, q2], B6.out⟩
          case measure => simp [intOf]; omega
      · obtain ⟨k, hk⟩ : ∃ k, j = k + 1 := ⟨j - 1, by omega⟩
        have hkj : (k : Int) < j := by omega
        obtain ⟨hzy, hzc⟩ := HZ.out k hk
        have hjg : (0 : Int) < j := by omega
        have hjk : (j : Int) - 1 = k := by omega
        have hkt : ((k : Int)).toNat = k := rfl
        have hkl : (k : Int) < N := by omega
        have hkw : IntKind.i64.wrap (j - 1 : Int) = k := by rw [IntKind.wrap_i64]; omega
        generalize H[k]?.getD 0 = z at *
        have hyz : ¬ y ≤ z := by omega
        clear HZ hj0 hk
        by_cases g1 : lo ≤ i
        · by_cases g2 : i ≤ hi
          · rw [if_pos ⟨g1, g2⟩] at q2
            go_wp2_with (first | (go_at_call 26; refine (leaves_any h y _ hy0 hy1).mono ?_; rw [e1, e2, e3]; rintro e w5 ⟨rfl, hb5⟩; have D5 := (Bd.new w5 41 lo hi); obtain ⟨D5a, D5b⟩ := D5.facts; have B5 := hidq (below_one (o := (.cells #[.int .u64 lo, .int .u64 hi] 41)) (below_trans BX.out hb5)); have X5 := (X3.below B5.out); have zc := hzc _ X5; clear hb5) | (go_at_call 27; refine (BC.out _ _ y (U3.below B5.out) hy0 hy1).mono ?_; rw [e4, e5]; rintro e w6 ⟨v6, rfl, ho6, hb6⟩; obtain ⟨a6, c6, rfl, -⟩ := us_view (Us.of_own ho6 (by simp)); have B6 := hidq (below_trans B5.out hb6); clear ho6 hb6))
            go_roundw
            case rel => exact ⟨j + 1, by omega, by go_num, by rw [HA1.out], by rw [HC1.out, q2], B6.out⟩
            case measure => simp [intOf]; omega
          · rw [if_neg (fun x => g2 x.2), Int.add_zero] at q2
            go_wp2_with (first | (go_at_call 26; refine (leaves_any h y _ hy0 hy1).mono ?_; rw [e1, e2, e3]; rintro e w5 ⟨rfl, hb5⟩; have D5 := (Bd.new w5 41 lo hi); obtain ⟨D5a, D5b⟩ := D5.facts; have B5 := hidq (below_one (o := (.cells #[.int .u64 lo, .int .u64 hi] 41)) (below_trans BX.out hb5)); have X5 := (X3.below B5.out); have zc := hzc _ X5; clear hb5) | (go_at_call 27; refine (BC.out _ _ y (U3.below B5.out) hy0 hy1).mono ?_; rw [e4, e5]; rintro e w6 ⟨v6, rfl, ho6, hb6⟩; obtain ⟨a6, c6, rfl, -⟩ := us_view (Us.of_own ho6 (by simp)); have B6 := hidq (below_trans B5.out hb6); clear ho6 hb6))
            go_roundw
            case rel => exact ⟨j + 1, by omega, by go_num, by rw [HA1.out], by rw [HC1.out, q2], B6.out⟩
            case measure => simp [intOf]; omega
        · rw [if_neg (fun x => g1 x.1), Int.add_zero] at q2
          go_wp2_with (first | (go_at_call 26; refine (leaves_any h y _ hy0 hy1).mono ?_; rw [e1, e2, e3]; rintro e w5 ⟨rfl, hb5⟩; have D5 := (Bd.new w5 41 lo hi); obtain ⟨D5a, D5b⟩ := D5.facts; have B5 := hidq (below_one (o := (.cells #[.int .u64 lo, .int .u64 hi] 41)) (below_trans BX.out hb5)); have X5 := (X3.below B5.out); have zc := hzc _ X5; clear hb5) | (go_at_call 27; refine (BC.out _ _ y (U3.below B5.out) hy0 hy1).mono ?_; rw [e4, e5]; rintro e w6 ⟨v6, rfl, ho6, hb6⟩; obtain ⟨a6, c6, rfl, -⟩ := us_view (Us.of_own ho6 (by simp)); have B6 := hidq (below_trans B5.out hb6); clear ho6 hb6))
          go_roundw
          case rel => exact ⟨j + 1, by omega, by go_num, by rw [HA1.out], by rw [HC1.out, q2], B6.out⟩
          case measure => simp [intOf]; omega
    · obtain rfl : j = N := by omega
      have hji : ¬ (j : Int) < j := by omega
      rw [hE1]
      have hwl : IntKind.u64.wrap (L.length : Int) = L.length := M.wrapu_id (by omega) (by omega)
      have hwf : IntKind.u64.wrap (M.p2 h - L.length + L.length) = M.p2 h := by rw [M.wrapu_id (by omega) (by omega)]; omega
      have hwh : IntKind.u64.wrap (M.p2 h - 1 + 1) = M.p2 h := by rw [M.wrapu_id (by omega) (by omega)]; omega
      clear hb
      by_cases hf : M.findE h L i = 0
      · have hib : i < M.p2 h := by
          unfold M.findE at hf
          cases hx : M.isB h i with
          | false => rw [hx, Bool.and_false] at hf; exact absurd hf (by decide)
          | true => exact (M.isB_of hx).2.2
        have hv : M.hasV h L i = M.has L i := by unfold M.hasV; rw [hf]; simp
        have hC := HE2.out h0 hib
        generalize M.hasV h L i = hV at *
        generalize M.findE h L i = fE at *
        by_cases hm : i ∈ L
        · rw [if_pos hm] at hC
          rw [M.has_iff.2 hm] at hv
          rw [hC]
          subst hv hf
          clear hC hm hE1
          go_wp2_with (first | (go_at_call 26; refine (leaves_any h 1 _ (by omega) (by omega)).mono ?_; rw [r1, r2, r3]; rintro e w7 ⟨rfl, hb7⟩; have D7 := (Bd.new w7 41 0 (M.p2 h - 1)); obtain ⟨D7a, D7b⟩ := D7.facts; have B7 := hidq (below_one (o := (.cells #[.int .u64 0, .int .u64 (M.p2 h - 1)] 41)) (below_trans BX.out hb7)); clear hb7))
          go_ret
          exact ⟨rfl, below_trans hB3 B7.out⟩
        · rw [if_neg hm] at hC
          rw [M.hasnt_iff.2 hm] at hv
          rw [hC]
          subst hv hf
          clear hC hm hE1
          go_wp2_with (first | (go_at_call 26; refine (leaves_any h 1 _ (by omega) (by omega)).mono ?_; rw [r1, r2, r3]; rintro e w7 ⟨rfl, hb7⟩; have D7 := (Bd.new w7 41 0 (M.p2 h - 1)); obtain ⟨D7a, D7b⟩ := D7.facts; have B7 := hidq (below_one (o := (.cells #[.int .u64 0, .int .u64 (M.p2 h - 1)] 41)) (below_trans BX.out hb7)); clear hb7))
          go_ret
          exact ⟨rfl, below_trans hB3 B7.out⟩
      · have hfe : (M.findE h L i == 0) = false := by rw [beq_eq_false_iff_ne]; exact hf
        generalize M.Sm (M.hit h i) (H.take j) = C at *
        generalize M.hasV h L i = hV at *
        generalize M.findE h L i = fE at *
        clear hE1
        go_wp2_with (first | (go_at_call 26; refine (leaves_any h 1 _ (by omega) (by omega)).mono ?_; rw [r1, r2, r3]; rintro e w7 ⟨rfl, hb7⟩; have D7 := (Bd.new w7 41 0 (M.p2 h - 1)); obtain ⟨D7a, D7b⟩ := D7.facts; have B7 := hidq (below_one (o := (.cells #[.int .u64 0, .int .u64 (M.p2 h - 1)] 41)) (below_trans BX.out hb7)); clear hb7))
        go_ret
        exact ⟨rfl, below_trans hB3 B7.out⟩
theorem steinerHang_walk (h : Int) (L : List Int) (v : Value) (i : Int) (w : World) (_ : -9223372036854775808 ≤ h) (_ : h ≤ 9223372036854775807) (hu : Us w v L) (h0 : 0 ≤ i) (h1 : i ≤ 18446744073709551615) :
    Calls Try.prog 5 #[.int .i64 h, v, .int .u64 i] w fun e w' => e = .returned (.bool true) ∧ Below w.heap.size w w' := by
  by_cases hl : L.length ≤ 30
  · by_cases hs : M.setE h L = 0
    · exact steinerHang_yes h L v i w hu h0 h1 hl (M.setE_zero.1 hs)
    · exact steinerHang_no h L v i w hu hl hs
  · exact steinerHang_long h L v i w hu hl
end Go.Proofs.Ythmiieiajfghnaa
