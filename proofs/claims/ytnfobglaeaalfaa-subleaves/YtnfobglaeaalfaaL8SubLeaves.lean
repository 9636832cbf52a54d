/-
  The law SubLeaves returns true at every input. Conditions: the numbers fit their kinds.
-/
import Derived.Test.YtnfobglaeaalfaaA10
namespace Go.Proofs.Ytnfobglaeaalfaa
open Go.RowKit
theorem inS_next {S : List (Int × Int)} {k : Nat} {x : Int × Int} {i : Int} (h : S[k]? = some x) : M.inS (S.take (k + 1)) i = (M.inS (S.take k) i || (decide (x.1 ≤ i) && decide (i ≤ x.2))) := by
  obtain ⟨hk, e⟩ := List.getElem?_eq_some_iff.1 h
  unfold M.inS
  rw [List.take_succ_eq_append_getElem hk, List.any_append, e]
  simp
theorem Ps.ptr {W : World} {ao : Option Addr} {n cap : Nat} {S : List (Int × Int)} (h : Ps W (.slice ao n cap) S) : 0 < n → ∃ b off, ao = some ⟨b, off, none⟩ := by
  obtain ⟨a, c, e, h2, _, _, h5⟩ := h
  cases e
  exact fun h0 => by obtain ⟨b, off, h6, _⟩ := h5 (by omega); exact ⟨b, off, h6⟩
set_option maxRecDepth 100000 in
set_option maxHeartbeats 2000000 in
theorem subLeaves_no (h : Int) (I J : Int) (i : Int) (w : World) (hI : 0 ≤ I ∧ I ≤ 18446744073709551615) (hJ : 0 ≤ J ∧ J ≤ 18446744073709551615) (hs : M.subB h I J = false) :
    Calls Try.prog 5 #[.int .i64 h, .agg #[.int .u64 I, .int .u64 J], .int .u64 i] w fun e w' => e = .returned (.bool true) ∧ Below w.heap.size w w' := by
  have LA := M.lvA_no hs
  have E := M.subE_no hs
  clear hs
  have HA := hidq (fun o => (Below.refl _ w).alloc (Nat.le_refl w.heap.size) o)
  have X0 := Bi.new w 24 I J
  obtain ⟨X0a, X0b⟩ := X0.facts
  have hB0 : Below w.heap.size w (w.alloc (.cells #[.int .u64 I, .int .u64 J] 24)) := HA.out _
  clear HA
  have T1 := hidq trivial
  have T2 := hidq trivial
  go_enter Try.func5, Try.ntmps5
  go_wp2_with (first | (go_at_call 10; clear T1; refine (live8_any _).mono ?_; rintro e w1 ⟨rfl, hb1⟩; have X1 := (X0.below hb1); obtain ⟨X1a, X1b⟩ := X1.facts; clear X0 X0a X0b; have hB1 := below_trans hB0 hb1) | (go_at_call 11; clear T2; refine (leaves8_all h I J _ hI.1 hI.2 hJ.1 hJ.2).mono ?_; rintro e w2 ⟨ao, cap, rfl, _, hb2⟩; have X2 := (X1.below hb2); obtain ⟨X2a, X2b⟩ := X2.facts; clear X1 X1a X1b; have hB2 := below_trans hB1 hb2))
  go_ret
  exact ⟨by simp, hB2⟩
set_option maxRecDepth 100000 in
set_option maxHeartbeats 2000000 in
theorem subLeaves_zero (h : Int) (I : Int) (i : Int) (w : World) (hI : 0 ≤ I ∧ I ≤ 18446744073709551615) (h4 : 0 ≤ i) (h5 : i ≤ 18446744073709551615) (hs : M.subB h I 0 = true) :
    Calls Try.prog 5 #[.int .i64 h, .agg #[.int .u64 I, .int .u64 0], .int .u64 i] w fun e w' => e = .returned (.bool true) ∧ Below w.heap.size w w' := by
  have hJ : (0 : Int) ≤ 0 ∧ (0 : Int) ≤ 18446744073709551615 := by omega
  have LA := M.lvA_yes hs
  have E := M.subE_yes hs
  have hok := (M.sub_of hs).1
  have G1 := M.eChk_ok hok
  have L1 := M.lowV_ok hok
  have L2 := M.highV_ok hok
  obtain ⟨a1, a2, a3⟩ := M.low_bd hok
  have p32 := M.p2_32 (M.ok_of hok).2.1
  obtain ⟨_, f1, f2, f3, f4, f5, _⟩ := M.lvs_facts hs
  obtain ⟨r, hr⟩ : ∃ r, M.inS (M.lvs h I 0) i = r := ⟨_, rfl⟩
  have HR := hidq hr
  have HY : Hid (M.leafE h i = 0 → M.shE h I 0 i = 0 ∧ M.shV h I 0 i = r) := fun hl => by rw [← hr]; exact M.sh_yes hs hl
  have HZ : Hid (M.leafE h i ≠ 0 → M.shE h I 0 i = 1 ∧ M.shV h I 0 i = false ∧ r = false) := fun hl => by
    obtain ⟨z1, z2⟩ := M.sh_no (h := h) (I := I) (J := 0) (i := i) (fun hx => hl hx.2)
    exact ⟨z1, z2, by rw [← hr]; exact M.inS_out hs (M.leafE_out ⟨(M.ok_of hok).1, (M.ok_of hok).2.1⟩ hl).2⟩
  clear hr
  have LC := hidq (fun X => leaves8_all h I 0 X hI.1 hI.2 hJ.1 hJ.2)
  rw [LA] at LC
  rw [if_pos rfl] at f4
  have hv : M.high h I - M.low h I + 1 = M.manyV h (M.lvs h I 0) := by omega
  have hv0 : (M.manyV h (M.lvs h I 0) == 0) = false := by rw [beq_eq_false_iff_ne]; omega
  clear hs hok f4 LA
  generalize hS : M.lvs h I 0 = S at *
  generalize hmv : M.manyV h S = mv at *
  generalize hn : S.length = n at *
  have HN := hidq hn
  generalize M.low h I = a at *
  generalize M.high h I = b at *
  have HA := hidq (fun o => (Below.refl _ w).alloc (Nat.le_refl w.heap.size) o)
  have X0 := Bi.new w 24 I 0
  obtain ⟨X0a, X0b⟩ := X0.facts
  have hB0 : Below w.heap.size w (w.alloc (.cells #[.int .u64 I, .int .u64 0] 24)) := HA.out _
  clear HA
  have T1 := hidq trivial
  have T2 := hidq trivial
  have T3 := hidq trivial
  have T4 := hidq trivial
  go_enter Try.func5, Try.ntmps5
  go_wp2_with (first | (go_at_call 10; clear T1; refine (live8_any _).mono ?_; rintro e w1 ⟨rfl, hb1⟩; have X1 := (X0.below hb1); obtain ⟨X1a, X1b⟩ := X1.facts; clear X0 X0a X0b; have hB1 := below_trans hB0 hb1) | (go_at_call 11; clear T2; refine (LC.out _).mono ?_; rintro e w2 ⟨ao, cap, rfl, hs1, hb2⟩; have X2 := (X1.below hb2); obtain ⟨X2a, X2b⟩ := X2.facts; clear X1 X1a X1b; have P2 := (hs1); have hB2 := below_trans hB1 hb2) | (go_at_call 29; clear T3; refine (many_any h _ _ _ P2).mono ?_; rintro e w3 ⟨rfl, hb3⟩; have X3 := (X2.below hb3); obtain ⟨X3a, X3b⟩ := X3.facts; clear X2 X2a X2b; have P3 := (P2.below hb3); clear P2; have hB3 := below_trans hB2 hb3) | (go_at_call 30; clear T4; refine (leaves_any h I _ (by omega) (by omega)).mono ?_; rintro e w4 ⟨rfl, hb4⟩; have X4 := (X3.below hb4).alloc (.cells #[.int .u64 a, .int .u64 b] 48); obtain ⟨X4a, X4b⟩ := X4.facts; clear X3 X3a X3b; have P4 := (P3.below hb4).alloc (.cells #[.int .u64 a, .int .u64 b] 48); clear P3; have A4 := Bi.new w4 48 a b; obtain ⟨A4a, A4b⟩ := A4.facts; have hB4 := below_one (o := (.cells #[.int .u64 a, .int .u64 b] 48)) (below_trans hB3 hb4)))
  have F3 := hidq (Ps.ptr P4)
  have PP := hidq P4
  have XX := hidq X4
  have BB := hidq hB4
  clear P4 X4 X4a X4b hB4 hb4
  generalize hW : w4.alloc (.cells #[.int .u64 a, .int .u64 b] 48) = W at *
  clear hW
  go_loopw [93, 17] (fun x t wr => ∃ (k : Nat) (q : Bool), k ≤ n ∧ x = .int .i64 k ∧ t = .bool q ∧ M.inS (S.take k) i = q ∧ Below W.heap.size W wr) (fun x _ _ => n - (intOf x).toNat)
  case atStart => exact ⟨0, false, by omega, rfl, rfl, by simp [M.inS], Below.refl _ _⟩
  case round =>
    obtain ⟨k, q, hk, rfl, rfl, hq, hb⟩ := hrel
    have HQ := hidq hq
    have HB := hidq hb
    clear hq
    by_cases hlt : k < n
    · obtain ⟨b1, o1, rfl⟩ := F3.out (by omega)
      obtain ⟨x, hx⟩ : ∃ x, S[k]? = some x := ⟨_, List.getElem?_eq_getElem (by rw [HN.out]; exact hlt)⟩
      obtain ⟨c5, c6⟩ := Ps.at (PP.out.below hb) hx
      have HX := hidq (inS_next (i := i) hx)
      rw [HQ.out] at HX
      have HB2 := hidq (below_one (o := .cells #[.int .u64 x.1, .int .u64 x.2] 48) hb)
      clear hx hb
      obtain ⟨y, z⟩ := x
      have HX' : Hid (M.inS (S.take (k + 1)) i = (q || (decide (y ≤ i) && decide (i ≤ z)))) := HX
      clear HX
      cases q with
      | true =>
        go_wp2
        go_roundw
        case rel => exact ⟨k + 1, true, by omega, by go_num, rfl, by rw [HX'.out]; rfl, HB2.out⟩
        case measure => simp [intOf]; omega
      | false =>
        by_cases c1 : y ≤ i
        · by_cases c2 : i ≤ z
          · rw [decide_eq_true c1, decide_eq_true c2] at HX'
            go_wp2
            go_roundw
            case rel => exact ⟨k + 1, true, by omega, by go_num, rfl, HX'.out, HB2.out⟩
            case measure => simp [intOf]; omega
          · rw [decide_eq_true c1, decide_eq_false c2] at HX'
            go_wp2
            go_roundw
            case rel => exact ⟨k + 1, false, by omega, by go_num, rfl, HX'.out, HB2.out⟩
            case measure => simp [intOf]; omega
        · rw [decide_eq_false c1] at HX'
          go_wp2
          go_roundw
          case rel => exact ⟨k + 1, false, by omega, by go_num, rfl, HX'.out, HB2.out⟩
          case measure => simp [intOf]; omega
    · obtain rfl : q = r := by rw [← HQ.out, ← HR.out, List.take_of_length_le (by rw [HN.out]; omega)]
      have X9 := XX.out.below hb
      obtain ⟨X9a, X9b⟩ := X9.facts
      have B9 := hidq (below_trans BB.out hb)
      have HB3 := hidq hb
      clear hb X9
      by_cases hl : M.leafE h i = 0
      · obtain ⟨E1, E2⟩ := HY.out hl
        go_wp2_with (first | (go_at_call 13; refine (has8_any h I _ i _ hI.1 hI.2 hJ.1 hJ.2 h4 h5).mono ?_; rintro e w8 ⟨rfl, hb8⟩))
        go_ret
        first | exact ⟨by simp, below_trans B9.out hb8⟩ | exact ⟨rfl, below_trans B9.out hb8⟩
      · obtain ⟨E1, E2, E3⟩ := HZ.out hl
        subst E3
        go_wp2_with (first | (go_at_call 13; refine (has8_any h I _ i _ hI.1 hI.2 hJ.1 hJ.2 h4 h5).mono ?_; rintro e w8 ⟨rfl, hb8⟩))
        go_ret
        exact ⟨rfl, below_trans B9.out hb8⟩
set_option maxRecDepth 100000 in
set_option maxHeartbeats 2000000 in
theorem subLeaves_some (h : Int) (I J : Int) (i : Int) (w : World) (hI : 0 ≤ I ∧ I ≤ 18446744073709551615) (hJ : 0 ≤ J ∧ J ≤ 18446744073709551615) (h4 : 0 ≤ i) (h5 : i ≤ 18446744073709551615) (hs : M.subB h I J = true) (h0 : J ≠ 0) :
    Calls Try.prog 5 #[.int .i64 h, .agg #[.int .u64 I, .int .u64 J], .int .u64 i] w fun e w' => e = .returned (.bool true) ∧ Below w.heap.size w w' := by
  have LA := M.lvA_yes hs
  have E := M.subE_yes hs
  have hok := (M.sub_of hs).1
  have G1 := M.eChk_ok hok
  have L1 := M.lowV_ok hok
  have L2 := M.highV_ok hok
  obtain ⟨a1, a2, a3⟩ := M.low_bd hok
  have p32 := M.p2_32 (M.ok_of hok).2.1
  obtain ⟨_, f1, f2, f3, f4, f5, _⟩ := M.lvs_facts hs
  obtain ⟨r, hr⟩ : ∃ r, M.inS (M.lvs h I J) i = r := ⟨_, rfl⟩
  have HR := hidq hr
  have HY : Hid (M.leafE h i = 0 → M.shE h I J i = 0 ∧ M.shV h I J i = r) := fun hl => by rw [← hr]; exact M.sh_yes hs hl
  have HZ : Hid (M.leafE h i ≠ 0 → M.shE h I J i = 1 ∧ M.shV h I J i = false ∧ r = false) := fun hl => by
    obtain ⟨z1, z2⟩ := M.sh_no (h := h) (I := I) (J := J) (i := i) (fun hx => hl hx.2)
    exact ⟨z1, z2, by rw [← hr]; exact M.inS_out hs (M.leafE_out ⟨(M.ok_of hok).1, (M.ok_of hok).2.1⟩ hl).2⟩
  clear hr
  have LC := hidq (fun X => leaves8_all h I J X hI.1 hI.2 hJ.1 hJ.2)
  rw [LA] at LC
  obtain ⟨g0, _, _, _, _, g1, g2, g3, g4⟩ := M.sub_in hs h0
  have G2 := M.eChk_ok g0
  have L3 := M.lowV_ok g0
  have L4 := M.highV_ok g0
  have hJ2 : (J != 0) = true := by rw [bne_iff_ne]; exact h0
  rw [if_neg h0] at f4
  have hv : M.high h I - M.low h I + 1 - (M.high h J - M.low h J + 1) = M.manyV h (M.lvs h I J) := by omega
  have hv0 : (M.manyV h (M.lvs h I J) == 0) = false := by rw [beq_eq_false_iff_ne]; omega
  clear hs hok f4 LA g0
  generalize hS : M.lvs h I J = S at *
  generalize hmv : M.manyV h S = mv at *
  generalize hn : S.length = n at *
  have HN := hidq hn
  generalize M.low h I = a at *
  generalize M.high h I = b at *
  generalize M.low h J = c at *
  generalize M.high h J = d at *
  have HA := hidq (fun o => (Below.refl _ w).alloc (Nat.le_refl w.heap.size) o)
  have X0 := Bi.new w 24 I J
  obtain ⟨X0a, X0b⟩ := X0.facts
  have hB0 : Below w.heap.size w (w.alloc (.cells #[.int .u64 I, .int .u64 J] 24)) := HA.out _
  clear HA
  have T1 := hidq trivial
  have T2 := hidq trivial
  have T3 := hidq trivial
  have T4 := hidq trivial
  have T5 := hidq trivial
  go_enter Try.func5, Try.ntmps5
  go_wp2_with (first | (go_at_call 10; clear T1; refine (live8_any _).mono ?_; rintro e w1 ⟨rfl, hb1⟩; have X1 := (X0.below hb1); obtain ⟨X1a, X1b⟩ := X1.facts; clear X0 X0a X0b; have hB1 := below_trans hB0 hb1) | (go_at_call 11; clear T2; refine (LC.out _).mono ?_; rintro e w2 ⟨ao, cap, rfl, hs1, hb2⟩; have X2 := (X1.below hb2); obtain ⟨X2a, X2b⟩ := X2.facts; clear X1 X1a X1b; have P2 := (hs1); have hB2 := below_trans hB1 hb2) | (go_at_call 29; clear T3; refine (many_any h _ _ _ P2).mono ?_; rintro e w3 ⟨rfl, hb3⟩; have X3 := (X2.below hb3); obtain ⟨X3a, X3b⟩ := X3.facts; clear X2 X2a X2b; have P3 := (P2.below hb3); clear P2; have hB3 := below_trans hB2 hb3) | (go_at_call 30; clear T4; refine (leaves_any h I _ (by omega) (by omega)).mono ?_; rintro e w4 ⟨rfl, hb4⟩; have X4 := (X3.below hb4).alloc (.cells #[.int .u64 a, .int .u64 b] 48); obtain ⟨X4a, X4b⟩ := X4.facts; clear X3 X3a X3b; have P4 := (P3.below hb4).alloc (.cells #[.int .u64 a, .int .u64 b] 48); clear P3; have A4 := Bi.new w4 48 a b; obtain ⟨A4a, A4b⟩ := A4.facts; have hB4 := below_one (o := (.cells #[.int .u64 a, .int .u64 b] 48)) (below_trans hB3 hb4)) | (go_at_call 30; clear T5; refine (leaves_any h J _ (by omega) (by omega)).mono ?_; rintro e w5 ⟨rfl, hb5⟩; have X5 := (X4.below hb5).alloc (.cells #[.int .u64 c, .int .u64 d] 48); obtain ⟨X5a, X5b⟩ := X5.facts; clear X4 X4a X4b; have A5 := (A4.below hb5).alloc (.cells #[.int .u64 c, .int .u64 d] 48); obtain ⟨A5a, A5b⟩ := A5.facts; clear A4 A4a A4b; have P5 := (P4.below hb5).alloc (.cells #[.int .u64 c, .int .u64 d] 48); clear P4; have D5 := Bi.new w5 48 c d; obtain ⟨D5a, D5b⟩ := D5.facts; have hB5 := below_one (o := (.cells #[.int .u64 c, .int .u64 d] 48)) (below_trans hB4 hb5)))
  have F3 := hidq (Ps.ptr P5)
  have PP := hidq P5
  have XX := hidq X5
  have BB := hidq hB5
  clear P5 X5 X5a X5b hB5 hb5
  generalize hW : w5.alloc (.cells #[.int .u64 c, .int .u64 d] 48) = W at *
  clear hW
  go_loopw [93, 17] (fun x t wr => ∃ (k : Nat) (q : Bool), k ≤ n ∧ x = .int .i64 k ∧ t = .bool q ∧ M.inS (S.take k) i = q ∧ Below W.heap.size W wr) (fun x _ _ => n - (intOf x).toNat)
  case atStart => exact ⟨0, false, by omega, rfl, rfl, by simp [M.inS], Below.refl _ _⟩
  case round =>
    obtain ⟨k, q, hk, rfl, rfl, hq, hb⟩ := hrel
    have HQ := hidq hq
    have HB := hidq hb
    clear hq
    by_cases hlt : k < n
    · obtain ⟨b1, o1, rfl⟩ := F3.out (by omega)
      obtain ⟨x, hx⟩ : ∃ x, S[k]? = some x := ⟨_, List.getElem?_eq_getElem (by rw [HN.out]; exact hlt)⟩
      obtain ⟨c5, c6⟩ := Ps.at (PP.out.below hb) hx
      have HX := hidq (inS_next (i := i) hx)
      rw [HQ.out] at HX
      have HB2 := hidq (below_one (o := .cells #[.int .u64 x.1, .int .u64 x.2] 48) hb)
      clear hx hb
      obtain ⟨y, z⟩ := x
      have HX' : Hid (M.inS (S.take (k + 1)) i = (q || (decide (y ≤ i) && decide (i ≤ z)))) := HX
      clear HX
      cases q with
      | true =>
        go_wp2
        go_roundw
        case rel => exact ⟨k + 1, true, by omega, by go_num, rfl, by rw [HX'.out]; rfl, HB2.out⟩
        case measure => simp [intOf]; omega
      | false =>
        by_cases c1 : y ≤ i
        · by_cases c2 : i ≤ z
          · rw [decide_eq_true c1, decide_eq_true c2] at HX'
            go_wp2
            go_roundw
            case rel => exact ⟨k + 1, true, by omega, by go_num, rfl, HX'.out, HB2.out⟩
            case measure => simp [intOf]; omega
          · rw [decide_eq_true c1, decide_eq_false c2] at HX'
            go_wp2
            go_roundw
            case rel => exact ⟨k + 1, false, by omega, by go_num, rfl, HX'.out, HB2.out⟩
            case measure => simp [intOf]; omega
        · rw [decide_eq_false c1] at HX'
          go_wp2
          go_roundw
          case rel => exact ⟨k + 1, false, by omega, by go_num, rfl, HX'.out, HB2.out⟩
          case measure => simp [intOf]; omega
    · obtain rfl : q = r := by rw [← HQ.out, ← HR.out, List.take_of_length_le (by rw [HN.out]; omega)]
      have X9 := XX.out.below hb
      obtain ⟨X9a, X9b⟩ := X9.facts
      have B9 := hidq (below_trans BB.out hb)
      have HB3 := hidq hb
      clear hb X9
      by_cases hl : M.leafE h i = 0
      · obtain ⟨E1, E2⟩ := HY.out hl
        go_wp2_with (first | (go_at_call 13; refine (has8_any h I _ i _ hI.1 hI.2 hJ.1 hJ.2 h4 h5).mono ?_; rintro e w8 ⟨rfl, hb8⟩))
        go_ret
        first | exact ⟨by simp, below_trans B9.out hb8⟩ | exact ⟨rfl, below_trans B9.out hb8⟩
      · obtain ⟨E1, E2, E3⟩ := HZ.out hl
        subst E3
        go_wp2_with (first | (go_at_call 13; refine (has8_any h I _ i _ hI.1 hI.2 hJ.1 hJ.2 h4 h5).mono ?_; rintro e w8 ⟨rfl, hb8⟩))
        go_ret
        exact ⟨rfl, below_trans B9.out hb8⟩
theorem subLeaves_walk (h : Int) (s : Int × Int) (i : Int) (w : World) (_h0 : -9223372036854775808 ≤ h) (_h1 : h ≤ 9223372036854775807) (hs : M.fitS s) (h4 : 0 ≤ i) (h5 : i ≤ 18446744073709551615) :
    Calls Try.prog 5 #[.int .i64 h, .agg #[.int .u64 s.1, .int .u64 s.2], .int .u64 i] w fun e w' => e = .returned (.bool true) ∧ Below w.heap.size w w' := by
  obtain ⟨I, J⟩ := s
  obtain ⟨hI, hJ⟩ := hs
  dsimp only at hI hJ ⊢
  cases hb : M.subB h I J
  · exact subLeaves_no h I J i w hI hJ hb
  · by_cases h0 : J = 0
    · subst h0; exact subLeaves_zero h I i w hI h4 h5 hb
    · exact subLeaves_some h I J i w hI hJ h4 h5 hb h0
end Go.Proofs.Ytnfobglaeaalfaa
