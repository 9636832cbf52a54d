/-
  What the document's own Bound and Cover answer at every input; the law's own example. Conditions: the slice holds numbers, they fit their kind.
-/
import Derived.Test.YtedilnipfjggfaaZI2
namespace Go.Proofs.Ytedilnipfjggfaa
open Go.RowKit
set_option maxRecDepth 100000 in
set_option maxHeartbeats 1000000 in
theorem rbound_any (h many : Int) (w : World) (hm0 : -9223372036854775808 ≤ many) (hm1 : many ≤ 9223372036854775807) :
    Calls Try.prog 12 #[.int .i64 h, .int .i64 many] w fun e w' => e = .returned (.tuple #[.int .u64 (M.bdV h many), .int .i64 (M.bdE h many)]) ∧ Below w.heap.size w w' := by
  unfold M.bdV M.bdE
  cases hc : M.cntB h many with
  | false =>
    go_enter Try.func12, Try.ntmps12
    go_wp2_with (first | (go_at_call 28; refine (rmay10_any h _ _ hm0 hm1).mono ?_; rw [hc]; rintro e w1 ⟨rfl, hb1⟩))
    go_ret2
    exact ⟨rfl, hb1⟩
  | true =>
    obtain ⟨s1, s2, s3, s4, s5⟩ := M.cnt_of hc
    by_cases c3 : many = 0
    · rw [if_pos c3]
      subst c3
      go_enter Try.func12, Try.ntmps12
      go_wp2_with (first | (go_at_call 28; refine (rmay10_any h _ _ hm0 hm1).mono ?_; rw [hc]; rintro e w1 ⟨rfl, hb1⟩))
      go_ret2
      exact ⟨rfl, hb1⟩
    · rw [if_neg c3]
      have c4 : (many == 0) = false := by rw [beq_eq_false_iff_ne]; exact c3
      obtain ⟨d1, d2⟩ := M.dep_many s1 s2 (show 1 ≤ many by omega) s5
      have hw3 : IntKind.i64.wrap (h - M.dep many) = h - M.dep many := by rw [IntKind.wrap_i64]; omega
      obtain ⟨m1, m2⟩ := M.mul_bd s3 s4 (show 0 ≤ h - M.dep many by omega) (by omega)
      have hw4 : IntKind.i64.wrap (many * (h - M.dep many)) = many * (h - M.dep many) := by rw [IntKind.wrap_i64]; omega
      have hw5 : IntKind.u64.wrap (many * (h - M.dep many)) = many * (h - M.dep many) := M.wrapu_id m1 (by omega)
      have HD := hidq (M.dep_iff many · (show 1 ≤ many by omega))
      have HS := hidq M.p2_succ
      have HP := hidq M.p2_pos
      have HM := hidq M.dep_nonneg
      go_enter Try.func12, Try.ntmps12
      go_wp2_with (first | (go_at_call 28; refine (rmay10_any h _ _ hm0 hm1).mono ?_; rw [hc]; rintro e w1 ⟨rfl, hb1⟩))
      go_loopw [7, 6] (fun a b wr => ∃ k : Nat, a = .int .i64 (M.p2 (k + 1)) ∧ b = .int .i64 k ∧ M.p2 k ≤ many ∧ wr = w1) (fun a _ _ => (many + 1 - intOf a).toNat)
      case atStart => exact ⟨0, rfl, rfl, by have : M.p2 ((0 : Nat) : Int) = 1 := by decide +kernel
                                             omega, rfl⟩
      case round =>
        obtain ⟨k, rfl, rfl, hk, rfl⟩ := hrel
        have q1 := HS.out (k + 1) (by omega)
        have q2 := HP.out (k + 1)
        have q3 := HS.out k (by omega)
        by_cases hlt : M.p2 (k + 1) ≤ many
        · have hkd : M.p2 k ≤ 1024 := by omega
          have hk10 : (k : Int) ≤ 10 := by
            rcases Int.lt_or_le 10 (k : Int) with hx | hx
            · have := M.p2_mono (show (11 : Int) ≤ k by omega)
              have h11 : M.p2 11 = 2048 := by decide +kernel
              omega
            · exact hx
          have hw6 : IntKind.i64.wrap (2 * M.p2 (k + 1)) = M.p2 (k + 1 + 1) := by rw [IntKind.wrap_i64]; omega
          have hw7 : IntKind.i64.wrap ((k : Int) + 1) = (k : Int) + 1 := by rw [IntKind.wrap_i64]; omega
          have HE := hidq q1
          clear q1 q3
          generalize hPP : M.p2 (k + 1 + 1) = PP at *
          have HPP := hidq hPP
          clear hPP
          generalize hPQ : M.p2 (k + 1) = P at *
          have HPQ := hidq hPQ
          clear hPQ
          go_wp2
          go_roundw
          case rel => exact ⟨k + 1, by rw [show ((k + 1 : Nat) : Int) + 1 = (k : Int) + 1 + 1 by omega, HPP.out], by go_num, by rw [show ((k + 1 : Nat) : Int) = (k : Int) + 1 by omega, HPQ.out]; assumption, by first | rfl | trivial⟩
          case measure => have := HE.out; simp [intOf]; omega
        · have hd : M.dep many = k := (HD.out k (by omega)).2 ⟨hk, by omega⟩
          have hw6 : IntKind.i64.wrap (h - (k : Int)) = h - k := by rw [← hd]; exact hw3
          have hw7 : IntKind.i64.wrap (many * (h - (k : Int))) = many * (h - k) := by rw [← hd]; exact hw4
          have hw8 : IntKind.u64.wrap (many * (h - (k : Int))) = many * (h - k) := by rw [← hd]; exact hw5
          have HDm := hidq hd
          clear q1 q2 q3 hw3 hw4 hw5 hd
          generalize M.p2 (k + 1) = P at *
          go_wp2
          go_ret2
          exact ⟨by rw [HDm.out]; rfl, hb1⟩
set_option maxRecDepth 100000 in
set_option maxHeartbeats 2000000 in
theorem rcover_any (h : Int) (L : List Int) (v : Value) (w : World) (hu : Us w v L) :
    Calls Try.prog 10 #[.int .i64 h, v] w fun e w' => ∃ v', e = .returned (.tuple #[v', .int .i64 (M.setE h L)]) ∧ Ss w' v' (M.cvL h L) ∧ Below w.heap.size w w' := by
  obtain ⟨ao, cap, rfl, -⟩ := us_view hu
  have HC := hidq (rstHang_any h L _ w hu)
  have HL := hidq (M.thV_len (h := h) (L := L))
  by_cases hE : M.setE h L = 0
  · rw [hE] at HC ⊢
    clear hu
    unfold M.cvL
    generalize M.thV h L = X at *
    go_enter Try.func10, Try.ntmps10
    go_wp2_with (first | (go_at_call 25; refine HC.out.mono ?_; rintro e w1 ⟨v1, rfl, u1, hb1⟩; have U1 := hidq u1; have B1 := hidq hb1; obtain ⟨a1, c1, rfl, -, hv⟩ := us_view u1; have HV := hidq hv; have HF := hidq (fun x hx => u1.fits x hx); clear u1 hb1 hv))
    generalize hN : X.length = N at *
    have HN := hidq hN
    clear hN
    go_loopw [22, 8] (fun i x wr => ∃ k : Nat, k ≤ N ∧ i = .int .i64 k ∧ wr.ownsRow w1.heap.size 34 2 x k (elSub.cells ((M.bare X).take k)) ∧ Below w1.heap.size w1 wr) (fun i _ _ => N - (intOf i).toNat)
    case atStart => exact ⟨0, by omega, rfl, World.ownsRow_nil _ _ _ _, Below.refl _ _⟩
    case round =>
      obtain ⟨k, hk, rfl, hown, hbel⟩ := hrel
      have HO := hidq hown
      have HB := hidq hbel
      by_cases hlt : k < N
      · have hki : (k : Int) < N := by omega
        have hN8 := HL.out
        obtain ⟨bF, oF, rfl, -⟩ := HV.out (by omega)
        have hkl : k < X.length := by rw [HN.out]; exact hlt
        have yc := (U1.out.below hbel).cellAt k hkl
        have HT := hidq (M.bare_take X k hkl)
        have hy := HF.out (X[k]?.getD 0) (by rw [List.getElem?_eq_getElem hkl]; exact List.getElem_mem hkl)
        generalize X[k]?.getD 0 = y at *
        clear hown hbel hkl
        go_wp2_with (first | (at_builtin; refine wpList_append_sl (E := elSub) rfl _ _ rfl w1.heap.size _ k ((M.bare X).take k) rfl (own_kept HO.out (below_one (o := .cells #[.int .u64 y, .int .u64 0] 34) (Below.refl wr.heap.size wr))) _ [(y, 0)] rfl (Ss.oneq _ _ y 0 _ (by first | rfl | simp) (by omega)) (by simp only [List.length_cons, List.length_nil]; omega) (by have := HB.out.size; simp; omega) ?_; intro v3 w3 hown3 hgrow3; have O3 := hidq hown3; have B3 := hidq ((below_one (o := .cells #[.int .u64 y, .int .u64 0] 34) HB.out).grown hgrow3 (by have := HB.out.size; simp; omega) (fun q hq => (HO.out.lt q hq).1)); clear hown3 hgrow3))
        go_roundw
        case rel => exact ⟨k + 1, by omega, by go_num, by rw [HT.out]; exact O3.out, B3.out⟩
        case measure => simp [intOf]; omega
      · obtain rfl : k = N := by omega
        have hki : ¬ (k : Int) < k := by omega
        have HS := hidq (show Ss wr _ (M.bare X) from Sl.of_own (E := elSub) (L := M.bare X) (show wr.ownsRow _ 34 2 _ _ _ from by have := hown; rw [List.take_of_length_le (by rw [M.bare_length]; exact Nat.le_of_eq HN.out)] at this; exact this) (by
          intro z hz
          obtain ⟨n, hn, rfl⟩ := List.mem_map.1 hz
          have := HF.out n hn
          exact ⟨this.1, this.2, Int.le_refl 0, (show (0 : Int) ≤ 18446744073709551615 by decide)⟩))
        clear hown hbel
        go_wp2
        go_ret2
        exact ⟨_, rfl, HS.out, below_trans B1.out HB.out⟩
  · rw [M.setE_one hE] at HC
    rw [M.cvL_no hE, M.setE_one hE]
    clear hu
    generalize M.thV h L = X at *
    go_enter Try.func10, Try.ntmps10
    go_wp2_with (first | (go_at_call 25; refine HC.out.mono ?_; rintro e w1 ⟨v1, rfl, u1, hb1⟩; have B1 := hidq hb1; clear u1 hb1))
    go_ret2
    exact ⟨_, rfl, Sl.nil _ _, B1.out⟩
theorem M.live10a : M.cvL 2 [1] = [(3, 0), (4, 0)] := by decide +kernel
set_option maxRecDepth 100000 in
set_option maxHeartbeats 1000000 in
theorem live10_any (w : World) :
    Calls Try.prog 8 #[] w fun e w' => e = .returned (.bool true) ∧ Below w.heap.size w w' := by
  obtain ⟨X, hX⟩ : ∃ X : List (Int × Int), [(3, 0), (4, 0)] = X := ⟨_, rfl⟩
  have LA := M.live10a
  rw [hX] at LA
  have LB := M.live9b
  have HH := hidq (fun W v (u : Us W v [1]) => cover_any 2 [1] v W u)
  rw [LA, LB] at HH
  have HX := hidq hX
  clear LA LB hX
  go_enter Try.func8, Try.ntmps8
  go_wp2_with (first | (go_at_call 9; refine (HH.out _ _ (Us.one _ _ _ (by omega) (by omega))).mono ?_; rintro e w1 ⟨v1, rfl, u1, hb1⟩; have U1 := hidq u1; have B1 := hidq (show Below w.heap.size w w1 from below_trans (below_one (Below.refl _ _)) hb1); clear u1 hb1) | (go_at_call 13; refine (rsameS_yes X _ _ _ (U1.out.alloc _) (by rw [← HX.out]; exact Ss.twoq _ _ 3 0 4 0 _ (by first | rfl | simp) (by omega) (by omega))).mono ?_; rintro e w2 ⟨rfl, hb2⟩; have B2 := hidq (below_trans (below_one B1.out) hb2); clear hb2))
  go_ret
  exact ⟨rfl, B2.out⟩
end Go.Proofs.Ytedilnipfjggfaa
