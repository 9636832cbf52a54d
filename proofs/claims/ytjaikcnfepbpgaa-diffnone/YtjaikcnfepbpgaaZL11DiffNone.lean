/-
  The law DiffNone returns true at every input: each leaf of the set is in no subset; J of each subset has leaves of the set below it, all that are below I. Conditions: the slice holds numbers, the numbers fit their kinds.
-/
import Derived.Test.YtjaikcnfepbpgaaZJ5
import Derived.Test.YtjaikcnfepbpgaaZTR
namespace Go.Proofs.Ytjaikcnfepbpgaa
open Go.RowKit
set_option maxRecDepth 100000 in
set_option maxHeartbeats 4000000 in
theorem diffNone_long (h : Int) (L : List Int) (v : Value) (w : World) (hu : Us w v L) (hl : ¬ L.length ≤ 30) :
    Calls Try.prog 5 #[.int .i64 h, v] w fun e w' => e = .returned (.bool true) ∧ Below w.heap.size w w' := by
  obtain ⟨ao, cap, rfl, -⟩ := us_view hu
  have hB0 := Below.refl w.heap.size w
  have U0 := hu
  have hli : (30 : Int) < L.length := by omega
  clear hl hu
  have T1 := hidq trivial
  go_enter Try.func5, Try.ntmps5
  go_wp2_with (first | (go_at_call 8; clear T1; refine (live11_any _).mono ?_; rintro e w1 ⟨rfl, hb1⟩; have U1 := (U0.below hb1); clear U0; have hB1 := below_trans hB0 hb1))
  go_ret
  exact ⟨rfl, hB1⟩
set_option maxRecDepth 100000 in
set_option maxHeartbeats 4000000 in
theorem diffNone_no (h : Int) (L : List Int) (v : Value) (w : World) (hu : Us w v L) (hl : L.length ≤ 30) (hs : ¬ M.setE h L = 0) :
    Calls Try.prog 5 #[.int .i64 h, v] w fun e w' => e = .returned (.bool true) ∧ Below w.heap.size w w' := by
  have CA := hidq (fun W v (u : Us W v L) => dcover_any h L v W u)
  rw [M.dfL_no hs, M.setE_one hs] at CA
  obtain ⟨ao, cap, rfl, -⟩ := us_view hu
  have hB0 := Below.refl w.heap.size w
  have U0 := hu
  have hli : ¬ (30 : Int) < L.length := by omega
  have T1 := hidq trivial
  have T2 := hidq trivial
  clear hl hu hs
  go_enter Try.func5, Try.ntmps5
  go_wp2_with (first | (go_at_call 8; clear T1; refine (live11_any _).mono ?_; rintro e w1 ⟨rfl, hb1⟩; have U1 := (U0.below hb1); clear U0; have hB1 := below_trans hB0 hb1) | (go_at_call 9; clear T2; refine (CA.out _ _ U1).mono ?_; rintro e w2 ⟨x, rfl, X2, hb2⟩; have U2 := (U1.below hb2); clear U1; have hB2 := hidq (below_trans hB1 hb2); obtain ⟨aX2, cX2, rfl, kX2, -, vX2⟩ := X2.form))
  go_ret
  exact ⟨rfl, hB2.out⟩
set_option maxRecDepth 100000 in
set_option maxHeartbeats 8000000 in
theorem diffNone_yes (h : Int) (L : List Int) (v : Value) (w : World) (hu : Us w v L) (hl : L.length ≤ 30) (hs : M.setB h L = true) (hn : L ≠ []) :
    Calls Try.prog 5 #[.int .i64 h, v] w fun e w' => e = .returned (.bool true) ∧ Below w.heap.size w w' := by
  have CA := hidq (fun W v (u : Us W v L) => dcover_any h L v W u)
  have HBE := hidq (M.dfL_below hs hn)
  have BC := hidq (fun W v c (u : Us W v L) => bel_any h L v c W u)
  have HBF := hidq (fun i => show ∀ x ∈ M.belV h L i, 0 ≤ x ∧ x ≤ 18446744073709551615 from fits_big M.belV_fits.1)
  have T3 := hidq trivial
  have HFi := hidq (M.dfL_fit hs)
  have HSu := hidq (M.dfL_sub hs)
  have HNO := hidq (fun i hi => M.dfL_none (i := i) hs hi)
  obtain ⟨b1, b2⟩ := M.dfL_bound hs
  have hdl : M.dbV h L.length ≤ 61 := by unfold M.dbV; rw [b1, if_pos rfl]; split <;> omega
  have HCl := hidq (show (M.dfL h L).length ≤ 61 by omega)
  have HI := hidq (fun x (hx : x ∈ L) => show (0 ≤ x ∧ x ≤ 18446744073709551615) ∧ M.leafE h x = 0 by
    obtain ⟨s1, s2, s3, s4, s5, s6⟩ := M.set_of hs
    have h6 := s6 x hx
    have := M.p2_32 s2
    exact ⟨by omega, M.leafE_yes s1 s2 h6.2⟩)
  rw [M.setE_zero.2 hs] at CA
  generalize M.dfL h L = C at *
  obtain ⟨ao, cap, rfl, -⟩ := us_view hu
  have hB0 := Below.refl w.heap.size w
  have U0 := hu
  have hli : ¬ (30 : Int) < L.length := by omega
  have hl30 := hl
  have T1 := hidq trivial
  have T2 := hidq trivial
  clear hu hs hl hn b1 b2 hdl
  go_enter Try.func5, Try.ntmps5
  go_wp2_with (first | (go_at_call 8; clear T1; refine (live11_any _).mono ?_; rintro e w1 ⟨rfl, hb1⟩; have U1 := (U0.below hb1); clear U0; have hB1 := below_trans hB0 hb1) | (go_at_call 9; clear T2; refine (CA.out _ _ U1).mono ?_; rintro e w2 ⟨x, rfl, X2, hb2⟩; have U2 := (U1.below hb2); clear U1; have hB2 := hidq (below_trans hB1 hb2); obtain ⟨aX2, cX2, rfl, kX2, -, vX2⟩ := X2.form))
  generalize hN : C.length = N at *
  have HN := hidq hN
  have hN8 := HCl.out
  clear hN
  go_loopw [34] (fun a wr => ∃ (j : Nat), j ≤ N ∧ a = .int .i64 j ∧ Below w2.heap.size w2 wr) (fun a _ => N - (intOf a).toNat)
  case atStart => exact ⟨0, by omega, rfl, Below.refl _ _⟩
  case round =>
    obtain ⟨j, hj, rfl, hb⟩ := hrel
    obtain ⟨wz, hwz⟩ : ∃ wz, wz = wr := ⟨_, rfl⟩
    subst hwz
    have BX := hidq hb
    by_cases hjn : j < N
    · have hji : (j : Int) < N := by omega
      obtain ⟨bF, oF, rfl⟩ := vX2 (by omega)
      obtain ⟨s, hsj⟩ : ∃ s, C[j]? = some s := ⟨_, List.getElem?_eq_getElem (by rw [HN.out]; exact hjn)⟩
      obtain ⟨x1, x2⟩ := Ss.at (X2.below hb) hsj
      have hm := List.mem_of_getElem? hsj
      obtain ⟨f1, f2, f3, f4, -⟩ := HFi.out s hm
      have hsb := HSu.out s hm
      have HNo := hidq (fun i hi => HNO.out i hi s hm)
      have HSH := hidq (fun i (hi : M.leafE h i = 0) => M.sh_yes hsb hi)
      obtain ⟨y, d⟩ := s
      dsimp only at x1 x2 f1 f2 f3 f4 hsb HNo HSH
      obtain ⟨k0, k1, k2, k3, k4⟩ := HBE.out (y, d) hm
      dsimp only at k0 k1 k2 k3 k4
      have HZF := hidq (HBF.out y)
      have hdb : (d == 0) = false := by rw [beq_eq_false_iff_ne]; exact k0
      generalize hZ : M.belV h L y = Z at *
      have hz2 : ¬ (Z.length : Int) = 0 := by omega
      have hz3 : ((Z.length : Int) == 0) = false := by rw [beq_eq_false_iff_ne]; exact hz2
      clear k4
      have hy0 : (0 : Int) ≤ y := by omega
      have hy1 := f2
      have hd0 := f3
      have hd1 := f4
      have SX := hidq (Bi.new wz 36 y d)
      have RX := hidq (below_one (o := (.cells #[.int .u64 y, .int .u64 d] 36)) (Below.refl wz.heap.size wz))
      clear hm hb hsb hsj
      go_wp2
      go_loopw [40] (fun a wq => ∃ (q : Nat), q ≤ L.length ∧ a = .int .i64 q ∧ Below (wz.alloc (.cells #[.int .u64 y, .int .u64 d] 36)).heap.size (wz.alloc (.cells #[.int .u64 y, .int .u64 d] 36)) wq) (fun a _ => L.length - (intOf a).toNat)
      case atStart => exact ⟨0, by omega, rfl, Below.refl _ _⟩
      case round =>
        obtain ⟨q, hq, rfl, hbq⟩ := hrel
        have HBQ := hidq hbq
        have SQ := hidq (SX.out.below hbq)
        obtain ⟨SQa, SQb⟩ := SQ.out.facts
        have RQ := hidq (below_trans RX.out hbq)
        by_cases hqk : q < L.length
        · have hqi : (q : Int) < L.length := by omega
          obtain ⟨bL, oL, rfl⟩ := us_ptr U2 (by omega)
          have xc := ((U2.below (below_trans BX.out RX.out)).below hbq).cellAt q hqk
          have hml : L[q]?.getD 0 ∈ L := by rw [List.getElem?_eq_getElem hqk]; exact List.getElem_mem hqk
          obtain ⟨i1, i2⟩ := HI.out _ hml
          have hno := HNo.out _ hml
          generalize L[q]?.getD 0 = x at *
          obtain ⟨e1, e2⟩ := HSH.out x i2
          rw [hno] at e2
          have HSC := hidq (fun W => has8_any h _ _ x W hy0 hy1 hd0 hd1 i1.1 i1.2)
          rw [e1, e2] at HSC
          clear hml hno e1 e2 hbq
          go_wp2_with (first | (go_at_call 15; refine (HSC.out _).mono ?_; rintro e w6 ⟨rfl, hb6⟩; have B6 := hidq (below_trans HBQ.out hb6); clear hb6))
          go_roundw
          case rel => exact ⟨q + 1, by omega, by go_num, B6.out⟩
          case measure => simp [intOf]; omega
        · have hqi : ¬ (q : Int) < L.length := by omega
          clear hbq
          go_wp2_with (first | (go_at_call 21; clear T3; refine (BC.out _ _ y (U2.below (below_trans BX.out RQ.out)) hy0 hy1).mono ?_; rw [k1, hZ]; rintro e w7 ⟨v7, rfl, ho7, hb7⟩; obtain ⟨a7, c7, rfl, -⟩ := us_view (Us.of_own ho7 HZF.out); have R7 := hidq (below_trans RQ.out hb7); have S7 := SQ.out.below hb7; obtain ⟨S7a, S7b⟩ := S7.facts; clear ho7 hb7) | (go_at_call 21; refine (BC.out _ _ d (U2.below (below_trans BX.out R7.out)) hd0 hd1).mono ?_; rw [k2, k3]; rintro e w8 ⟨v8, rfl, ho8, hb8⟩; obtain ⟨a8, c8, rfl, -⟩ := us_view (Us.of_own ho8 HZF.out); have B8 := hidq (below_trans BX.out (below_trans R7.out hb8)); clear ho8 hb8))
          go_roundw
          case rel => exact ⟨j + 1, by omega, by go_num, B8.out⟩
          case measure => simp [intOf]; omega
    · obtain rfl : j = N := by omega
      have hji : ¬ (j : Int) < j := by omega
      clear hb
      go_wp2
      go_ret
      exact ⟨rfl, below_trans hB2.out BX.out⟩
set_option maxRecDepth 100000 in
set_option maxHeartbeats 8000000 in
theorem diffNone_nil (h : Int) (L : List Int) (v : Value) (w : World) (hu : Us w v L) (hl : L.length ≤ 30) (hs : M.setB h L = true) (hn : L = []) :
    Calls Try.prog 5 #[.int .i64 h, v] w fun e w' => e = .returned (.bool true) ∧ Below w.heap.size w w' := by
  subst hn
  have CA := hidq (fun W v (u : Us W v ([] : List Int)) => dcover_any h ([] : List Int) v W u)
  have HCN := hidq (fun s (hm : s ∈ M.dfL h ([] : List Int)) => show s = (1, 0) by rw [M.dfL_nil hs] at hm; simpa using hm)
  have HFi := hidq (M.dfL_fit hs)
  have HSu := hidq (M.dfL_sub hs)
  have HNO := hidq (fun i hi => M.dfL_none (i := i) hs hi)
  obtain ⟨b1, b2⟩ := M.dfL_bound hs
  have hdl : M.dbV h ([] : List Int).length ≤ 61 := by unfold M.dbV; rw [b1, if_pos rfl]; split <;> omega
  have HCl := hidq (show (M.dfL h ([] : List Int)).length ≤ 61 by omega)
  have HI := hidq (fun x (hx : x ∈ ([] : List Int)) => show (0 ≤ x ∧ x ≤ 18446744073709551615) ∧ M.leafE h x = 0 by
    obtain ⟨s1, s2, s3, s4, s5, s6⟩ := M.set_of hs
    have h6 := s6 x hx
    have := M.p2_32 s2
    exact ⟨by omega, M.leafE_yes s1 s2 h6.2⟩)
  rw [M.setE_zero.2 hs] at CA
  generalize M.dfL h ([] : List Int) = C at *
  obtain ⟨ao, cap, rfl, -⟩ := us_view hu
  have hB0 := Below.refl w.heap.size w
  have U0 := hu
  have T1 := hidq trivial
  have T2 := hidq trivial
  clear hu hs hl b1 b2 hdl
  go_enter Try.func5, Try.ntmps5
  go_wp2_with (first | (go_at_call 8; clear T1; refine (live11_any _).mono ?_; rintro e w1 ⟨rfl, hb1⟩; have U1 := (U0.below hb1); clear U0; have hB1 := below_trans hB0 hb1) | (go_at_call 9; clear T2; refine (CA.out _ _ U1).mono ?_; rintro e w2 ⟨x, rfl, X2, hb2⟩; have U2 := (U1.below hb2); clear U1; have hB2 := hidq (below_trans hB1 hb2); obtain ⟨aX2, cX2, rfl, kX2, -, vX2⟩ := X2.form))
  generalize hN : C.length = N at *
  have HN := hidq hN
  have hN8 := HCl.out
  clear hN
  go_loopw [34] (fun a wr => ∃ (j : Nat), j ≤ N ∧ a = .int .i64 j ∧ Below w2.heap.size w2 wr) (fun a _ => N - (intOf a).toNat)
  case atStart => exact ⟨0, by omega, rfl, Below.refl _ _⟩
  case round =>
    obtain ⟨j, hj, rfl, hb⟩ := hrel
    obtain ⟨wz, hwz⟩ : ∃ wz, wz = wr := ⟨_, rfl⟩
    subst hwz
    have BX := hidq hb
    by_cases hjn : j < N
    · have hji : (j : Int) < N := by omega
      obtain ⟨bF, oF, rfl⟩ := vX2 (by omega)
      obtain ⟨s, hsj⟩ : ∃ s, C[j]? = some s := ⟨_, List.getElem?_eq_getElem (by rw [HN.out]; exact hjn)⟩
      obtain ⟨x1, x2⟩ := Ss.at (X2.below hb) hsj
      have hm := List.mem_of_getElem? hsj
      obtain ⟨f1, f2, f3, f4, -⟩ := HFi.out s hm
      have hsb := HSu.out s hm
      have HNo := hidq (fun i hi => HNO.out i hi s hm)
      have HSH := hidq (fun i (hi : M.leafE h i = 0) => M.sh_yes hsb hi)
      obtain ⟨y, d⟩ := s
      dsimp only at x1 x2 f1 f2 f3 f4 hsb HNo HSH
      obtain ⟨rfl, rfl⟩ : y = 1 ∧ d = 0 := by have := HCN.out (y, d) hm; simpa using this
      have hy0 : (0 : Int) ≤ 1 := by omega
      have hy1 := f2
      have hd0 := f3
      have hd1 := f4
      have SX := hidq (Bi.new wz 36 1 0)
      have RX := hidq (below_one (o := (.cells #[.int .u64 1, .int .u64 0] 36)) (Below.refl wz.heap.size wz))
      clear hm hb hsb hsj
      go_wp2
      go_loopw [40] (fun a wq => ∃ (q : Nat), q ≤ 0 ∧ a = .int .i64 q ∧ Below (wz.alloc (.cells #[.int .u64 1, .int .u64 0] 36)).heap.size (wz.alloc (.cells #[.int .u64 1, .int .u64 0] 36)) wq) (fun a _ => 0 - (intOf a).toNat)
      case atStart => exact ⟨0, by omega, rfl, Below.refl _ _⟩
      case round =>
        obtain ⟨q, hq, rfl, hbq⟩ := hrel
        have HBQ := hidq hbq
        have SQ := hidq (SX.out.below hbq)
        obtain ⟨SQa, SQb⟩ := SQ.out.facts
        have RQ := hidq (below_trans RX.out hbq)
        by_cases hqk : q < 0
        · exact absurd hqk (by omega)
        · obtain rfl : q = 0 := by omega
          have hqi : ¬ ((0 : Nat) : Int) < 0 := by omega
          clear hbq
          go_wp2
          go_roundw
          case rel => exact ⟨j + 1, by omega, by go_num, below_trans BX.out RQ.out⟩
          case measure => simp [intOf]; omega
    · obtain rfl : j = N := by omega
      have hji : ¬ (j : Int) < j := by omega
      clear hb
      go_wp2
      go_ret
      exact ⟨rfl, below_trans hB2.out BX.out⟩
set_option maxRecDepth 100000 in
theorem diffNone_walk (h : Int) (L : List Int) (v : Value) (w : World) (_ : -9223372036854775808 ≤ h) (_ : h ≤ 9223372036854775807) (hu : Us w v L) :
    Calls Try.prog 5 #[.int .i64 h, v] w fun e w' => e = .returned (.bool true) ∧ Below w.heap.size w w' := by
  by_cases hl : L.length ≤ 30
  · by_cases hs : M.setE h L = 0
    · by_cases hn : L = []
      · exact diffNone_nil h L v w hu hl (M.setE_zero.1 hs) hn
      · exact diffNone_yes h L v w hu hl (M.setE_zero.1 hs) hn
    · exact diffNone_no h L v w hu hl hs
  · exact diffNone_long h L v w hu hl
end Go.Proofs.Ytjaikcnfepbpgaa
