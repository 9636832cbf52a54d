/-
  What whole.Bound, and the document's own Cover, May and Bound, answer at every input; the law's own example. Conditions: the slice holds numbers, they fit their kind.
-/
import Derived.Test.YtmicgojojkkkhaaGreatZI1
import Derived.Test.YtmicgojojkkkhaaGreatZO9
namespace Go.Proofs.YtmicgojojkkkhaaGreat
open Go.RowKit
namespace M
/-- there may be a set of so many leaves -/
def cntB (h many : Int) : Bool := htB h && decide (0 ≤ many) && decide (many ≤ 1024) && decide (many ≤ p2 h)
def bdE (h many : Int) : Int := if cntB h many then 0 else 1
def bdV (h many : Int) : Int := if cntB h many then (if many = 0 then 1 else many * (h - dep many)) else 0
theorem cnt_of {h many : Int} (hc : cntB h many = true) : 1 ≤ h ∧ h ≤ 32 ∧ 0 ≤ many ∧ many ≤ 1024 ∧ many ≤ p2 h := by
  unfold cntB at hc
  simp only [Bool.and_eq_true, decide_eq_true_eq] at hc
  obtain ⟨⟨⟨h1, h2⟩, h3⟩, h4⟩ := hc
  exact ⟨(ht_of h1).1, (ht_of h1).2, h2, h3, h4⟩
theorem cnt_mk {h many : Int} (h1 : 1 ≤ h) (h2 : h ≤ 32) (h3 : 0 ≤ many) (h4 : many ≤ 1024) (h5 : many ≤ p2 h) : cntB h many = true := by
  unfold cntB
  rw [ht_mk h1 h2, decide_eq_true h3, decide_eq_true h4, decide_eq_true h5]; rfl
theorem dep_many {h many : Int} (h1 : 1 ≤ h) (h2 : h ≤ 32) (h3 : 1 ≤ many) (h5 : many ≤ p2 h) : 0 ≤ dep many ∧ dep many ≤ h := by
  have hp := p2_pos h
  exact ⟨dep_nonneg _, dep_le_of h3 (by omega) (by omega)⟩
theorem mul_bd {a b : Int} (ha : 0 ≤ a) (ha2 : a ≤ 1024) (hb : 0 ≤ b) (hb2 : b ≤ 32) : 0 ≤ a * b ∧ a * b ≤ 32768 := by
  have h1 := Int.mul_nonneg ha hb
  have h2 := Int.mul_le_mul ha2 hb2 hb (by decide)
  omega
end M
set_option maxRecDepth 100000 in
set_option maxHeartbeats 1000000 in
theorem lenU_any (x : Int) (w : World) (h0 : 0 ≤ x) (h1 : x ≤ 18446744073709551615) :
    Calls Tryz.prog 76 #[.int .u64 x] w fun e w' => e = .returned (.int .i64 (bitLen x.toNat)) ∧ w' = w := by
  go_enter Tryz.func76, Tryz.ntmps76
  go_wp2_with (go_at_call 88; refine (len64_any x _ h0 h1).mono ?_; rintro e w' ⟨rfl, hw⟩; subst w')
  go_ret
  exact ⟨rfl, rfl⟩
set_option maxRecDepth 100000 in
set_option maxHeartbeats 1000000 in
theorem greatestPower_any (n : Int) (w : World) (h0 : 1 ≤ n) (h1 : n ≤ 9223372036854775807) :
    Calls Tryz.prog 56 #[.int .i64 n] w fun e w' => e = .returned (.int .i64 (M.dep n)) ∧ w' = w := by
  have hb := M.bitLen_dep n h0
  have h3 := M.dep_nonneg n
  have h4 := M.dep_63 h0 (by omega)
  have hw : IntKind.u64.wrap n = n := M.wrapu_id (by omega) (by omega)
  go_enter Tryz.func56, Tryz.ntmps56
  go_wp2_with (go_at_call 76; refine (lenU_any n _ (by omega) (by omega)).mono ?_; rintro e w' ⟨rfl, hw⟩; subst w')
  go_ret
  exact ⟨rfl, rfl⟩
set_option maxRecDepth 100000 in
set_option maxHeartbeats 1000000 in
theorem bound_any (h many : Int) (w : World) (_ : -9223372036854775808 ≤ many) (_ : many ≤ 9223372036854775807) :
    Calls Tryz.prog 23 #[.int .i64 h, .int .i64 many] w fun e w' => e = .returned (.tuple #[.int .u64 (M.bdV h many), .int .i64 (M.bdE h many)]) ∧ Below w.heap.size w w' := by
  have e1 := M.lowV_one h
  cases hh : M.htB h with
  | false =>
    have hc : M.cntB h many = false := by unfold M.cntB; rw [hh]; rfl
    have e2 : M.highV h 1 = 0 := by rw [M.highV_one, hh]; rfl
    have e3 : M.eChk h 1 = 1 := by rw [M.eChk_one, hh]; rfl
    unfold M.bdV M.bdE
    rw [hc]
    obtain ⟨HI, hHI⟩ : ∃ x : Int, 0 = x := ⟨_, rfl⟩
    rw [hHI] at e2
    clear hHI
    go_enter Tryz.func23, Tryz.ntmps23
    go_wp2_with (first | (go_at_call 55; refine (leaves_any h 1 _ (by omega) (by omega)).mono ?_; rw [e1, e2, e3]; rintro e w1 ⟨rfl, hb1⟩; have D1 := (Bd.new w1 63 0 HI); obtain ⟨D1a, D1b⟩ := D1.facts; have B1 := hidq (below_one (o := .cells #[.int .u64 0, .int .u64 HI] 63) hb1); clear hb1))
    go_ret2
    exact ⟨rfl, B1.out⟩
  | true =>
    obtain ⟨s1, s2⟩ := M.ht_of hh
    have hp := M.p2_pos h
    have hp32 := M.p2_32 s2
    have e2 : M.highV h 1 = M.p2 h - 1 := by rw [M.highV_one, hh]; rfl
    have e3 : M.eChk h 1 = 0 := by rw [M.eChk_one, hh]; rfl
    obtain ⟨HI, hHI⟩ : ∃ x : Int, M.p2 h - 1 = x := ⟨_, rfl⟩
    rw [hHI] at e2
    have hw1 : IntKind.u64.wrap (HI + 1) = M.p2 h := by rw [M.wrapu_id (by omega) (by omega)]; omega
    by_cases c0 : 0 ≤ many
    · have hw2 : IntKind.u64.wrap many = many := M.wrapu_id (by omega) (by omega)
      by_cases c1 : many ≤ 1024
      · by_cases c2 : many ≤ M.p2 h
        · have hc := M.cnt_mk s1 s2 c0 c1 c2
          unfold M.bdV M.bdE
          rw [hc]
          by_cases c3 : many = 0
          · rw [if_pos c3]
            subst c3
            generalize M.p2 h = P at *
            clear hHI hc
            go_enter Tryz.func23, Tryz.ntmps23
            go_wp2_with (first | (go_at_call 55; refine (leaves_any h 1 _ (by omega) (by omega)).mono ?_; rw [e1, e2, e3]; rintro e w1 ⟨rfl, hb1⟩; have D1 := (Bd.new w1 63 0 HI); obtain ⟨D1a, D1b⟩ := D1.facts; have B1 := hidq (below_one (o := .cells #[.int .u64 0, .int .u64 HI] 63) hb1); clear hb1))
            go_ret2
            exact ⟨rfl, B1.out⟩
          · rw [if_neg c3]
            have c4 : (many == 0) = false := by rw [beq_eq_false_iff_ne]; exact c3
            obtain ⟨d1, d2⟩ := M.dep_many s1 s2 (show 1 ≤ many by omega) c2
            have hw3 : IntKind.i64.wrap (h - M.dep many) = h - M.dep many := by rw [IntKind.wrap_i64]; omega
            have hw4 : IntKind.u64.wrap (h - M.dep many) = h - M.dep many := M.wrapu_id (by omega) (by omega)
            obtain ⟨m1, m2⟩ := M.mul_bd c0 c1 (show 0 ≤ h - M.dep many by omega) (by omega)
            have hw5 : IntKind.u64.wrap (many * (h - M.dep many)) = many * (h - M.dep many) := M.wrapu_id m1 (by omega)
            generalize M.p2 h = P at *
            generalize hdm : M.dep many = dm at *
            clear hHI hc
            go_enter Tryz.func23, Tryz.ntmps23
            go_wp2_with (first | (go_at_call 55; refine (leaves_any h 1 _ (by omega) (by omega)).mono ?_; rw [e1, e2, e3]; rintro e w1 ⟨rfl, hb1⟩; have D1 := (Bd.new w1 63 0 HI); obtain ⟨D1a, D1b⟩ := D1.facts; have B1 := hidq (below_one (o := .cells #[.int .u64 0, .int .u64 HI] 63) hb1); clear hb1) | (go_at_call 56; refine (greatestPower_any many _ (by omega) (by omega)).mono ?_; rintro e w' ⟨rfl, hw⟩; subst w'))
            go_ret2
            exact ⟨rfl, B1.out⟩
        · have hc : M.cntB h many = false := by unfold M.cntB; rw [decide_eq_false c2, Bool.and_false]
          unfold M.bdV M.bdE
          rw [hc]
          generalize M.p2 h = P at *
          clear hHI hc
          go_enter Tryz.func23, Tryz.ntmps23
          go_wp2_with (first | (go_at_call 55; refine (leaves_any h 1 _ (by omega) (by omega)).mono ?_; rw [e1, e2, e3]; rintro e w1 ⟨rfl, hb1⟩; have D1 := (Bd.new w1 63 0 HI); obtain ⟨D1a, D1b⟩ := D1.facts; have B1 := hidq (below_one (o := .cells #[.int .u64 0, .int .u64 HI] 63) hb1); clear hb1))
          go_ret2
          exact ⟨rfl, B1.out⟩
      · have hc : M.cntB h many = false := by unfold M.cntB; rw [decide_eq_false c1, Bool.and_false]; rfl
        unfold M.bdV M.bdE
        rw [hc]
        generalize M.p2 h = P at *
        clear hHI hc
        go_enter Tryz.func23, Tryz.ntmps23
        go_wp2_with (first | (go_at_call 55; refine (leaves_any h 1 _ (by omega) (by omega)).mono ?_; rw [e1, e2, e3]; rintro e w1 ⟨rfl, hb1⟩; have D1 := (Bd.new w1 63 0 HI); obtain ⟨D1a, D1b⟩ := D1.facts; have B1 := hidq (below_one (o := .cells #[.int .u64 0, .int .u64 HI] 63) hb1); clear hb1))
        go_ret2
        exact ⟨rfl, B1.out⟩
    · have hc : M.cntB h many = false := by unfold M.cntB; rw [decide_eq_false c0, Bool.and_false]; rfl
      unfold M.bdV M.bdE
      rw [hc]
      generalize M.p2 h = P at *
      clear hHI hc
      go_enter Tryz.func23, Tryz.ntmps23
      go_wp2_with (first | (go_at_call 55; refine (leaves_any h 1 _ (by omega) (by omega)).mono ?_; rw [e1, e2, e3]; rintro e w1 ⟨rfl, hb1⟩; have D1 := (Bd.new w1 63 0 HI); obtain ⟨D1a, D1b⟩ := D1.facts; have B1 := hidq (below_one (o := .cells #[.int .u64 0, .int .u64 HI] 63) hb1); clear hb1))
      go_ret2
      exact ⟨rfl, B1.out⟩
set_option maxRecDepth 100000 in
set_option maxHeartbeats 1000000 in
theorem rmay10_any (h many : Int) (w : World) (_ : -9223372036854775808 ≤ many) (_ : many ≤ 9223372036854775807) :
    Calls Tryz.prog 57 #[.int .i64 h, .int .i64 many] w fun e w' => e = .returned (.bool (M.cntB h many)) ∧ Below w.heap.size w w' := by
  have e1 := M.lowV_one h
  cases hh : M.htB h with
  | false =>
    have hc : M.cntB h many = false := by unfold M.cntB; rw [hh]; rfl
    have e2 : M.highV h 1 = 0 := by rw [M.highV_one, hh]; rfl
    have e3 : M.eChk h 1 = 1 := by rw [M.eChk_one, hh]; rfl
    rw [hc]
    obtain ⟨HI, hHI⟩ : ∃ x : Int, 0 = x := ⟨_, rfl⟩
    rw [hHI] at e2
    clear hHI
    go_enter Tryz.func57, Tryz.ntmps57
    go_wp2_with (first | (go_at_call 81; refine (rleaves_any h 1 _ (by omega) (by omega)).mono ?_; rw [e1, e2, e3]; rintro e w1 ⟨rfl, hb1⟩; have D1 := (Bd.new w1 63 0 HI); obtain ⟨D1a, D1b⟩ := D1.facts; have B1 := hidq (below_one (o := .cells #[.int .u64 0, .int .u64 HI] 63) hb1); clear hb1))
    go_ret
    exact ⟨rfl, B1.out⟩
  | true =>
    obtain ⟨s1, s2⟩ := M.ht_of hh
    have hp := M.p2_pos h
    have hp32 := M.p2_32 s2
    have e2 : M.highV h 1 = M.p2 h - 1 := by rw [M.highV_one, hh]; rfl
    have e3 : M.eChk h 1 = 0 := by rw [M.eChk_one, hh]; rfl
    obtain ⟨HI, hHI⟩ : ∃ x : Int, M.p2 h - 1 = x := ⟨_, rfl⟩
    rw [hHI] at e2
    have hw1 : IntKind.u64.wrap (HI + 1) = M.p2 h := by rw [M.wrapu_id (by omega) (by omega)]; omega
    have hc : M.cntB h many = (decide (0 ≤ many) && decide (many ≤ 1024) && decide (many ≤ M.p2 h)) := by unfold M.cntB; rw [hh]; rfl
    rw [hc]
    clear hc
    by_cases c0 : 0 ≤ many
    · have hw2 : IntKind.u64.wrap many = many := M.wrapu_id (by omega) (by omega)
      rw [decide_eq_true c0]
      by_cases c1 : many ≤ 1024
      · rw [decide_eq_true c1]
        generalize M.p2 h = P at *
        clear hHI
        go_enter Tryz.func57, Tryz.ntmps57
        go_wp2_with (first | (go_at_call 81; refine (rleaves_any h 1 _ (by omega) (by omega)).mono ?_; rw [e1, e2, e3]; rintro e w1 ⟨rfl, hb1⟩; have D1 := (Bd.new w1 63 0 HI); obtain ⟨D1a, D1b⟩ := D1.facts; have B1 := hidq (below_one (o := .cells #[.int .u64 0, .int .u64 HI] 63) hb1); clear hb1))
        go_ret
        exact ⟨rfl, B1.out⟩
      · rw [decide_eq_false c1]
        generalize M.p2 h = P at *
        clear hHI
        go_enter Tryz.func57, Tryz.ntmps57
        go_wp2_with (first | (go_at_call 81; refine (rleaves_any h 1 _ (by omega) (by omega)).mono ?_; rw [e1, e2, e3]; rintro e w1 ⟨rfl, hb1⟩; have D1 := (Bd.new w1 63 0 HI); obtain ⟨D1a, D1b⟩ := D1.facts; have B1 := hidq (below_one (o := .cells #[.int .u64 0, .int .u64 HI] 63) hb1); clear hb1))
        go_ret
        exact ⟨rfl, B1.out⟩
    · rw [decide_eq_false c0]
      generalize M.p2 h = P at *
      clear hHI
      go_enter Tryz.func57, Tryz.ntmps57
      go_wp2_with (first | (go_at_call 81; refine (rleaves_any h 1 _ (by omega) (by omega)).mono ?_; rw [e1, e2, e3]; rintro e w1 ⟨rfl, hb1⟩; have D1 := (Bd.new w1 63 0 HI); obtain ⟨D1a, D1b⟩ := D1.facts; have B1 := hidq (below_one (o := .cells #[.int .u64 0, .int .u64 HI] 63) hb1); clear hb1))
      go_ret
      exact ⟨rfl, B1.out⟩
end Go.Proofs.YtmicgojojkkkhaaGreat
namespace Go.Proofs.YtmicgojojkkkhaaGreat
open Go.RowKit
set_option maxRecDepth 100000 in
set_option maxHeartbeats 1000000 in
theorem rbound_any (h many : Int) (w : World) (hm0 : -9223372036854775808 ≤ many) (hm1 : many ≤ 9223372036854775807) :
    Calls Tryz.prog 25 #[.int .i64 h, .int .i64 many] w fun e w' => e = .returned (.tuple #[.int .u64 (M.bdV h many), .int .i64 (M.bdE h many)]) ∧ Below w.heap.size w w' := by
  unfold M.bdV M.bdE
  cases hc : M.cntB h many with
  | false =>
    go_enter Tryz.func25, Tryz.ntmps25
    go_wp2_with (first | (go_at_call 57; refine (rmay10_any h _ _ hm0 hm1).mono ?_; rw [hc]; rintro e w1 ⟨rfl, hb1⟩))
    go_ret2
    exact ⟨rfl, hb1⟩
  | true =>
    obtain ⟨s1, s2, s3, s4, s5⟩ := M.cnt_of hc
    by_cases c3 : many = 0
    · rw [if_pos c3]
      subst c3
      go_enter Tryz.func25, Tryz.ntmps25
      go_wp2_with (first | (go_at_call 57; refine (rmay10_any h _ _ hm0 hm1).mono ?_; rw [hc]; rintro e w1 ⟨rfl, hb1⟩))
      go_ret2
      exact ⟨rfl, hb1⟩
    · rw [if_neg c3]
      have c4 : (many == 0) = false := by rw [beq_eq_false_iff_ne]; exact c3
      obtain ⟨d1, d2⟩ := M.dep_many s1 s2 (show 1 ≤ many by omega) s5
      have hw3 : IntKind.i64.wrap (h - M.dep many) = h - M.dep many := by rw [IntKind.wrap_i64]; omega
      obtain ⟨m1, m2⟩ := M.mul_bd s3 s4 (show 0 ≤ h - M.dep many by omega) (by omega)
      have hw4 : IntKind.i64.wrap (many * (h - M.dep many)) = many * (h - M.dep many) := by rw [IntKind.wrap_i64]; omega
      have hw5 : IntKind.u64.wrap (many * (h - M.dep many)) = many * (h - M.dep many) := M.wrapu_id m1 (by omega)
      have HD := hidq (M.dep_iff many · (show 1 ≤ many by omega))
      have HS := hidq M.p2_succ
      have HP := hidq M.p2_pos
      have HM := hidq M.dep_nonneg
      go_enter Tryz.func25, Tryz.ntmps25
      go_wp2_with (first | (go_at_call 57; refine (rmay10_any h _ _ hm0 hm1).mono ?_; rw [hc]; rintro e w1 ⟨rfl, hb1⟩))
      go_loopw [7, 6] (fun a b wr => ∃ k : Nat, a = .int .i64 (M.p2 (k + 1)) ∧ b = .int .i64 k ∧ M.p2 k ≤ many ∧ wr = w1) (fun a _ _ => (many + 1 - intOf a).toNat)
      case atStart => exact ⟨0, rfl, rfl, by have : M.p2 ((0 : Nat) : Int) = 1 := by decide +kernel
                                             omega, rfl⟩
      case round =>
        obtain ⟨k, rfl, rfl, hk, rfl⟩ := hrel
        have q1 := HS.out (k + 1) (by omega)
        have q2 := HP.out (k + 1)
        have q3 := HS.out k (by omega)
        by_cases hlt : M.p2 (k + 1) ≤ many
        · have hkd : M.p2 k ≤ 1024 := by omega
          have hk10 : (k : Int) ≤ 10 := by
            rcases Int.lt_or_le 10 (k : Int) with hx | hx
            · have := M.p2_mono (show (11 : Int) ≤ k by omega)
              have h11 : M.p2 11 = 2048 := by decide +kernel
              omega
            · exact hx
          have hw6 : IntKind.i64.wrap (2 * M.p2 (k + 1)) = M.p2 (k + 1 + 1) := by rw [IntKind.wrap_i64]; omega
          have hw7 : IntKind.i64.wrap ((k : Int) + 1) = (k : Int) + 1 := by rw [IntKind.wrap_i64]; omega
          have HE := hidq q1
          clear q1 q3
          generalize hPP : M.p2 (k + 1 + 1) = PP at *
          have HPP := hidq hPP
          clear hPP
          generalize hPQ : M.p2 (k + 1) = P at *
          have HPQ := hidq hPQ
          clear hPQ
          go_wp2
          go_roundw
          case rel => exact ⟨k + 1, by rw [show ((k + 1 : Nat) : Int) + 1 = (k : Int) + 1 + 1 by omega, HPP.out], by go_num, by rw [show ((k + 1 : Nat) : Int) = (k : Int) + 1 by omega, HPQ.out]; assumption, by first | rfl | trivial⟩
          case measure => have := HE.out; simp [intOf]; omega
        · have hd : M.dep many = k := (HD.out k (by omega)).2 ⟨hk, by omega⟩
          have hw6 : IntKind.i64.wrap (h - (k : Int)) = h - k := by rw [← hd]; exact hw3
          have hw7 : IntKind.i64.wrap (many * (h - (k : Int))) = many * (h - k) := by rw [← hd]; exact hw4
          have hw8 : IntKind.u64.wrap (many * (h - (k : Int))) = many * (h - k) := by rw [← hd]; exact hw5
          have HDm := hidq hd
          clear q1 q2 q3 hw3 hw4 hw5 hd
          generalize M.p2 (k + 1) = P at *
          go_wp2
          go_ret2
          exact ⟨by rw [HDm.out]; rfl, hb1⟩
set_option maxRecDepth 100000 in
set_option maxHeartbeats 2000000 in
theorem rcover_any (h : Int) (L : List Int) (v : Value) (w : World) (hu : Us w v L) :
    Calls Tryz.prog 19 #[.int .i64 h, v] w fun e w' => ∃ v', e = .returned (.tuple #[v', .int .i64 (M.setE h L)]) ∧ Ss w' v' (M.cvL h L) ∧ Below w.heap.size w w' := by
  obtain ⟨ao, cap, rfl, -⟩ := us_view hu
  have HC := hidq (rstHang_any h L _ w hu)
  have HL := hidq (M.thV_len (h := h) (L := L))
  by_cases hE : M.setE h L = 0
  · rw [hE] at HC ⊢
    clear hu
    unfold M.cvL
    generalize M.thV h L = X at *
    go_enter Tryz.func19, Tryz.ntmps19
    go_wp2_with (first | (go_at_call 48; refine HC.out.mono ?_; rintro e w1 ⟨v1, rfl, u1, hb1⟩; have U1 := hidq u1; have B1 := hidq hb1; obtain ⟨a1, c1, rfl, -, hv⟩ := us_view u1; have HV := hidq hv; have HF := hidq (fun x hx => u1.fits x hx); clear u1 hb1 hv))
    generalize hN : X.length = N at *
    have HN := hidq hN
    clear hN
    go_loopw [22, 8] (fun i x wr => ∃ k : Nat, k ≤ N ∧ i = .int .i64 k ∧ wr.ownsRow w1.heap.size 25 2 x k (elSub.cells ((M.bareL X).take k)) ∧ Below w1.heap.size w1 wr) (fun i _ _ => N - (intOf i).toNat)
    case atStart => exact ⟨0, by omega, rfl, World.ownsRow_nil _ _ _ _, Below.refl _ _⟩
    case round =>
      obtain ⟨k, hk, rfl, hown, hbel⟩ := hrel
      have HO := hidq hown
      have HB := hidq hbel
      by_cases hlt : k < N
      · have hki : (k : Int) < N := by omega
        have hN8 := HL.out
        obtain ⟨bF, oF, rfl, -⟩ := HV.out (by omega)
        have hkl : k < X.length := by rw [HN.out]; exact hlt
        have yc := (U1.out.below hbel).cellAt k hkl
        have HT := hidq (M.bare_take X k hkl)
        have hy := HF.out (X[k]?.getD 0) (by rw [List.getElem?_eq_getElem hkl]; exact List.getElem_mem hkl)
        generalize X[k]?.getD 0 = y at *
        clear hown hbel hkl
        go_wp2_with (first | (at_builtin; refine wpList_append_sl (E := elSub) rfl _ _ rfl w1.heap.size _ k ((M.bareL X).take k) rfl (own_kept HO.out (below_one (o := .cells #[.int .u64 y, .int .u64 0] 25) (Below.refl wr.heap.size wr))) _ [(y, 0)] rfl (Ss.oneq _ _ y 0 _ (by first | rfl | simp) (by omega)) (by simp only [List.length_cons, List.length_nil]; omega) (by have := HB.out.size; simp; omega) ?_; intro v3 w3 hown3 hgrow3; have O3 := hidq hown3; have B3 := hidq ((below_one (o := .cells #[.int .u64 y, .int .u64 0] 25) HB.out).grown hgrow3 (by have := HB.out.size; simp; omega) (fun q hq => (HO.out.lt q hq).1)); clear hown3 hgrow3))
        go_roundw
        case rel => exact ⟨k + 1, by omega, by go_num, by rw [HT.out]; exact O3.out, B3.out⟩
        case measure => simp [intOf]; omega
      · obtain rfl : k = N := by omega
        have hki : ¬ (k : Int) < k := by omega
        have HS := hidq (show Ss wr _ (M.bareL X) from Sl.of_own (E := elSub) (L := M.bareL X) (show wr.ownsRow _ 25 2 _ _ _ from by have := hown; rw [List.take_of_length_le (by rw [M.bare_length]; exact Nat.le_of_eq HN.out)] at this; exact this) (by
          intro z hz
          obtain ⟨n, hn, rfl⟩ := List.mem_map.1 hz
          have := HF.out n hn
          exact ⟨this.1, this.2, Int.le_refl 0, (show (0 : Int) ≤ 18446744073709551615 by decide)⟩))
        clear hown hbel
        go_wp2
        go_ret2
        exact ⟨_, rfl, HS.out, below_trans B1.out HB.out⟩
  · rw [M.setE_one hE] at HC
    rw [M.cvL_no hE, M.setE_one hE]
    clear hu
    generalize M.thV h L = X at *
    go_enter Tryz.func19, Tryz.ntmps19
    go_wp2_with (first | (go_at_call 48; refine HC.out.mono ?_; rintro e w1 ⟨v1, rfl, u1, hb1⟩; have B1 := hidq hb1; clear u1 hb1))
    go_ret2
    exact ⟨_, rfl, Sl.nil _ _, B1.out⟩
theorem M.live10a : M.cvL 2 [1] = [(3, 0), (4, 0)] := by decide +kernel
end Go.Proofs.YtmicgojojkkkhaaGreat
