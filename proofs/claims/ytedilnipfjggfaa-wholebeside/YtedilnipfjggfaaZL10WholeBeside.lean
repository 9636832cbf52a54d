/-
  The law WholeBeside returns true at every input: beside each subset of the cover there is one of the set; no two are both children of one node. Conditions: the slice holds numbers, the numbers fit their kinds.
-/
import Derived.Test.YtedilnipfjggfaaZFU
import Derived.Test.YtedilnipfjggfaaZI3
import Derived.Test.YtedilnipfjggfaaZON
import Derived.Test.YtedilnipfjggfaaZTR
namespace Go.Proofs.Ytedilnipfjggfaa
open Go.RowKit
set_option maxRecDepth 100000 in
set_option maxHeartbeats 4000000 in
theorem wholeBeside_long (h : Int) (L : List Int) (v : Value) (w : World) (hu : Us w v L) (hl : ¬ L.length ≤ 30) :
    Calls Try.prog 7 #[.int .i64 h, v] w fun e w' => e = .returned (.bool true) ∧ Below w.heap.size w w' := by
  obtain ⟨ao, cap, rfl, -⟩ := us_view hu
  have hB0 := Below.refl w.heap.size w
  have U0 := hu
  have hli : (30 : Int) < L.length := by omega
  clear hl hu
  have T1 := hidq trivial
  go_enter Try.func7, Try.ntmps7
  go_wp2_with (first | (go_at_call 8; clear T1; refine (live10_any _).mono ?_; rintro e w1 ⟨rfl, hb1⟩; have U1 := (U0.below hb1); clear U0; have hB1 := below_trans hB0 hb1))
  go_ret
  exact ⟨rfl, hB1⟩
set_option maxRecDepth 100000 in
set_option maxHeartbeats 4000000 in
theorem wholeBeside_no (h : Int) (L : List Int) (v : Value) (w : World) (hu : Us w v L) (hl : L.length ≤ 30) (hs : ¬ M.setE h L = 0) :
    Calls Try.prog 7 #[.int .i64 h, v] w fun e w' => e = .returned (.bool true) ∧ Below w.heap.size w w' := by
  have HC := hidq (fun W v (u : Us W v L) => cover_any h L v W u)
  rw [M.cvL_no hs, M.setE_one hs] at HC
  obtain ⟨ao, cap, rfl, -⟩ := us_view hu
  have hB0 := Below.refl w.heap.size w
  have U0 := hu
  have hli : ¬ (30 : Int) < L.length := by omega
  have T1 := hidq trivial
  have T2 := hidq trivial
  clear hl hu hs
  go_enter Try.func7, Try.ntmps7
  go_wp2_with (first | (go_at_call 8; clear T1; refine (live10_any _).mono ?_; rintro e w1 ⟨rfl, hb1⟩; have U1 := (U0.below hb1); clear U0; have hB1 := below_trans hB0 hb1) | (go_at_call 9; clear T2; refine (HC.out _ _ U1).mono ?_; rintro e w2 ⟨x, rfl, X2, hb2⟩; have U2 := (U1.below hb2); clear U1; have hB2 := below_trans hB1 hb2; obtain ⟨aX2, cX2, rfl, kX2, -, vX2⟩ := X2.form))
  go_ret
  exact ⟨rfl, hB2⟩
theorem M.cvL_nil {h : Int} (hs : M.setB h [] = true) : M.cvL h [] = [(1, 0)] := by
  unfold M.cvL M.thV
  rw [if_pos (M.setE_zero.2 hs)]; rfl
set_option maxRecDepth 100000 in
set_option maxHeartbeats 4000000 in
theorem wholeBeside_nil (h : Int) (v : Value) (w : World) (hu : Us w v []) (hs : M.setB h [] = true) :
    Calls Try.prog 7 #[.int .i64 h, v] w fun e w' => e = .returned (.bool true) ∧ Below w.heap.size w w' := by
  have HC := hidq (fun W v (u : Us W v []) => cover_any h [] v W u)
  obtain ⟨C, hC⟩ : ∃ C : List (Int × Int), [(1, 0)] = C := ⟨_, rfl⟩
  rw [M.cvL_nil hs, M.setE_zero.2 hs, hC] at HC
  have hc0 : C[0]? = some (1, 0) := by rw [← hC]; rfl
  have hcl : C.length = 1 := by rw [← hC]; rfl
  obtain ⟨ao, cap, rfl, -⟩ := us_view hu
  have hB0 := Below.refl w.heap.size w
  have U0 := hu
  have T1 := hidq trivial
  have T2 := hidq trivial
  have HL := hidq hcl
  clear hu hs hC hcl
  go_enter Try.func7, Try.ntmps7
  go_wp2_with (first | (go_at_call 8; clear T1; refine (live10_any _).mono ?_; rintro e w1 ⟨rfl, hb1⟩; have U1 := (U0.below hb1); clear U0; have hB1 := below_trans hB0 hb1) | (go_at_call 9; clear T2; refine (HC.out _ _ U1).mono ?_; rintro e w2 ⟨x, rfl, X2, hb2⟩; have U2 := (U1.below hb2); clear U1; have hB2 := below_trans hB1 hb2; obtain ⟨aX2, cX2, rfl, kX2, -, vX2⟩ := X2.form))
  obtain ⟨bF, oF, rfl⟩ := vX2 (by have := HL.out; omega)
  obtain ⟨x1, x2⟩ := Ss.at X2 hc0
  dsimp only at x1 x2
  simp only [Nat.zero_mul, Nat.add_zero] at x1 x2
  rw [HL.out] at X2 ⊢
  refine wp_loop_rounds 1 ?_
  rw [rounds_succ]
  go_wp2
  go_ret
  exact ⟨rfl, below_one hB2⟩
set_option maxRecDepth 100000 in
set_option maxHeartbeats 8000000 in
theorem wholeBeside_yes (h : Int) (L : List Int) (v : Value) (w : World) (hu : Us w v L) (hl : L.length ≤ 30) (hs : M.setB h L = true) (hn : L ≠ []) :
    Calls Try.prog 7 #[.int .i64 h, v] w fun e w' => e = .returned (.bool true) ∧ Below w.heap.size w w' := by
  have HC := hidq (fun W v (u : Us W v L) => cover_any h L v W u)
  have BC := hidq (fun W v c (u : Us W v L) => bel_any h L v c W u)
  have HP := hidq (fun c (hc : c ∈ M.thV h L) => M.hang_beside hs hn hc)
  have HV := hidq (fun c (hc : M.okB h c = true) => M.isV_yes hs hc)
  have HO := hidq (fun c (hc : c ∈ M.thV h L) => ((M.hang_mem hs).1 hc).1)
  rw [M.setE_zero.2 hs] at HC
  have HLen := hidq (M.thV_len (h := h) (L := L))
  have HB := hidq (fun i => show ∀ x ∈ M.belV h L i, 0 ≤ x ∧ x ≤ 18446744073709551615 from fits_big M.belV_fits.1)
  unfold M.cvL at HC
  generalize M.thV h L = X at *
  obtain ⟨ao, cap, rfl, -⟩ := us_view hu
  have hB0 := Below.refl w.heap.size w
  have U0 := hu
  have hli : ¬ (30 : Int) < L.length := by omega
  have T1 := hidq trivial
  have T2 := hidq trivial
  clear hl hu hs hn
  have HX := hidq (M.bare_length X)
  have HA := hidq (M.bare_at X)
  generalize hC : M.bare X = C at *
  have HCl := hidq hC
  clear hC
  go_enter Try.func7, Try.ntmps7
  go_wp2_with (first | (go_at_call 8; clear T1; refine (live10_any _).mono ?_; rintro e w1 ⟨rfl, hb1⟩; have U1 := (U0.below hb1); clear U0; have hB1 := below_trans hB0 hb1) | (go_at_call 9; clear T2; refine (HC.out _ _ U1).mono ?_; rintro e w2 ⟨x, rfl, X2, hb2⟩; have U2 := (U1.below hb2); clear U1; have hB2 := below_trans hB1 hb2; obtain ⟨aX2, cX2, rfl, kX2, -, vX2⟩ := X2.form))
  generalize hN : C.length = N at *
  have HN := hidq hN
  clear hN
  go_loopw [29] (fun a wr => ∃ (j : Nat), j ≤ N ∧ a = .int .i64 j ∧ Below w2.heap.size w2 wr) (fun a _ => N - (intOf a).toNat)
  case atStart => exact ⟨0, by omega, rfl, Below.refl _ _⟩
  case round =>
    obtain ⟨j, hj, rfl, hb⟩ := hrel
    have BX := hidq hb
    by_cases hjn : j < N
    · have hji : (j : Int) < N := by omega
      obtain ⟨bF, oF, rfl⟩ := vX2 (by omega)
      have hjl : j < X.length := by rw [← HX.out]; exact hjn
      obtain ⟨x1, x2⟩ := Ss.at (X2.below hb) (HA.out j hjl)
      dsimp only at x1 x2
      have hm : X[j]?.getD 0 ∈ X := by rw [List.getElem?_eq_getElem hjl]; exact List.getElem_mem hjl
      obtain ⟨q1, q2, q3⟩ := HP.out _ hm
      have q4 := HO.out _ hm
      have hN9 : N ≤ 80000 := by have := HX.out; have := HLen.out; omega
      generalize X[j]?.getD 0 = y at *
      obtain ⟨q6, q5⟩ := HV.out _ q2
      rw [q3] at q5
      have hy1 := M.ok_lt q4
      have ho1' := M.ok_lt q2
      have ho0' := (M.ok_of q2).2.2.1
      have hyn : ¬ y = 1 := by omega
      have hyb : (y == 1) = false := by rw [beq_eq_false_iff_ne]; exact hyn
      have hxo : bits BinOp.xor IntKind.u64 y 1 = M.oth y := M.xor_one y (by omega) (by omega)
      have ho0 : 0 ≤ M.oth y := by omega
      have ho1 : M.oth y ≤ 18446744073709551615 := by omega
      have eB := q6
      have hz : ¬ (M.belV h L (M.oth y)).length = 0 := by
        have := q5
        unfold M.isV at this
        have := of_decide_eq_true this
        omega
      have HF := HB.out (M.oth y)
      generalize hZ : M.belV h L (M.oth y) = Z at *
      have hz2 : ¬ (Z.length : Int) = 0 := by omega
      have hz3 : ((Z.length : Int) == 0) = false := by rw [beq_eq_false_iff_ne]; exact hz2
      clear q2 q3 q4 q5 hm hb hjl hz
      go_wp2_with (first | (go_at_call 21; refine (BC.out _ _ (M.oth y) (U2.below (below_one (o := (.cells #[.int .u64 y, .int .u64 0] 34)) BX.out)) ho0 ho1).mono ?_; rw [eB, hZ]; rintro e w6 ⟨v6, rfl, ho6, hb6⟩; obtain ⟨a6, c6, rfl, -⟩ := us_view (Us.of_own ho6 HF); have B6 := hidq (below_trans (below_one (o := (.cells #[.int .u64 y, .int .u64 0] 34)) BX.out) hb6); clear ho6 hb6))
      go_roundw
      case rel => exact ⟨j + 1, by omega, by go_num, B6.out⟩
      case measure => simp [intOf]; omega
    · obtain rfl : j = N := by omega
      have hji : ¬ (j : Int) < j := by omega
      clear hb
      go_wp2
      go_ret
      exact ⟨rfl, below_trans hB2 BX.out⟩
theorem wholeBeside_walk (h : Int) (L : List Int) (v : Value) (w : World) (_ : -9223372036854775808 ≤ h) (_ : h ≤ 9223372036854775807) (hu : Us w v L) :
    Calls Try.prog 7 #[.int .i64 h, v] w fun e w' => e = .returned (.bool true) ∧ Below w.heap.size w w' := by
  by_cases hl : L.length ≤ 30
  · by_cases hs : M.setE h L = 0
    · by_cases hn : L = []
      · subst hn; exact wholeBeside_nil h v w hu (M.setE_zero.1 hs)
      · exact wholeBeside_yes h L v w hu hl (M.setE_zero.1 hs) hn
    · exact wholeBeside_no h L v w hu hl hs
  · exact wholeBeside_long h L v w hu hl
end Go.Proofs.Ytedilnipfjggfaa
