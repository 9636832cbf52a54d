/-
  What whole.Bound, and the document's own Cover, May and Bound, answer at every input; the law's own example. Conditions: the slice holds numbers, they fit their kind.
-/
import Derived.Test.YtmicgojojkkkhaaZI1
import Derived.Test.YtmicgojojkkkhaaZO9
namespace Go.Proofs.Ytmicgojojkkkhaa
open Go.RowKit
namespace M
/-- there may be a set of so many leaves -/
def cntB (h many : Int) : Bool := htB h && decide (0 ≤ many) && decide (many ≤ 1024) && decide (many ≤ p2 h)
def bdE (h many : Int) : Int := if cntB h many then 0 else 1
def bdV (h many : Int) : Int := if cntB h many then (if many = 0 then 1 else many * (h - dep many)) else 0
theorem cnt_of {h many : Int} (hc : cntB h many = true) : 1 ≤ h ∧ h ≤ 32 ∧ 0 ≤ many ∧ many ≤ 1024 ∧ many ≤ p2 h := by
  unfold cntB at hc
  simp only [Bool.and_eq_true, decide_eq_true_eq] at hc
  obtain ⟨⟨⟨h1, h2⟩, h3⟩, h4⟩ := hc
  exact ⟨(ht_of h1).1, (ht_of h1).2, h2, h3, h4⟩
theorem cnt_mk {h many : Int} (h1 : 1 ≤ h) (h2 : h ≤ 32) (h3 : 0 ≤ many) (h4 : many ≤ 1024) (h5 : many ≤ p2 h) : cntB h many = true := by
  unfold cntB
  rw [ht_mk h1 h2, decide_eq_true h3, decide_eq_true h4, decide_eq_true h5]; rfl
theorem dep_many {h many : Int} (h1 : 1 ≤ h) (h2 : h ≤ 32) (h3 : 1 ≤ many) (h5 : many ≤ p2 h) : 0 ≤ dep many ∧ dep many ≤ h := by
  have hp := p2_pos h
  exact ⟨dep_nonneg _, dep_le_of h3 (by omega) (by omega)⟩
theorem mul_bd {a b : Int} (ha : 0 ≤ a) (ha2 : a ≤ 1024) (hb : 0 ≤ b) (hb2 : b ≤ 32) : 0 ≤ a * b ∧ a * b ≤ 32768 := by
  have h1 := Int.mul_nonneg ha hb
  have h2 := Int.mul_le_mul ha2 hb2 hb (by decide)
  omega
end M
set_option maxRecDepth 100000 in
set_option maxHeartbeats 1000000 in
theorem lenU_any (x : Int) (w : World) (h0 : 0 ≤ x) (h1 : x ≤ 18446744073709551615) :
    Calls Try.prog 45 #[.int .u64 x] w fun e w' => e = .returned (.int .i64 (bitLen x.toNat)) ∧ w' = w := by
  go_enter Try.func45, Try.ntmps45
  go_wp2_with (go_at_call 78; refine (len64_any x _ h0 h1).mono ?_; rintro e w' ⟨rfl, hw⟩; subst w')
  go_ret
  exact ⟨rfl, rfl⟩
set_option maxRecDepth 100000 in
set_option maxHeartbeats 1000000 in
theorem greatestPower_any (n : Int) (w : World) (h0 : 1 ≤ n) (h1 : n ≤ 9223372036854775807) :
    Calls Try.prog 54 #[.int .i64 n] w fun e w' => e = .returned (.int .i64 (M.dep n)) ∧ w' = w := by
  have hb := M.bitLen_dep n h0
  have h3 := M.dep_nonneg n
  have h4 := M.dep_63 h0 (by omega)
  have hw : IntKind.u64.wrap n = n := M.wrapu_id (by omega) (by omega)
  go_enter Try.func54, Try.ntmps54
  go_wp2_with (go_at_call 45; refine (lenU_any n _ (by omega) (by omega)).mono ?_; rintro e w' ⟨rfl, hw⟩; subst w')
  go_ret
  exact ⟨rfl, rfl⟩
set_option maxRecDepth 100000 in
set_option maxHeartbeats 1000000 in
theorem bound_any (h many : Int) (w : World) (_ : -9223372036854775808 ≤ many) (_ : many ≤ 9223372036854775807) :
    Calls Try.prog 29 #[.int .i64 h, .int .i64 many] w fun e w' => e = .returned (.tuple #[.int .u64 (M.bdV h many), .int .i64 (M.bdE h many)]) ∧ Below w.heap.size w w' := by
  have e1 := M.lowV_one h
  cases hh : M.htB h with
  | false =>
    have hc : M.cntB h many = false := by unfold M.cntB; rw [hh]; rfl
    have e2 : M.highV h 1 = 0 := by rw [M.highV_one, hh]; rfl
    have e3 : M.eChk h 1 = 1 := by rw [M.eChk_one, hh]; rfl
    unfold M.bdV M.bdE
    rw [hc]
    obtain ⟨HI, hHI⟩ : ∃ x : Int, 0 = x := ⟨_, rfl⟩
    rw [hHI] at e2
    clear hHI
    go_enter Try.func29, Try.ntmps29
    go_wp2_with (first | (go_at_call 53; refine (leaves_any h 1 _ (by omega) (by omega)).mono ?_; rw [e1, e2, e3]; rintro e w1 ⟨rfl, hb1⟩; have D1 := (Bd.new w1 49 0 HI); obtain ⟨D1a, D1b⟩ := D1.facts; have B1 := hidq (below_one (o := .cells #[.int .u64 0, .int .u64 HI] 49) hb1); clear hb1))
    go_ret2
    exact ⟨rfl, B1.out⟩
  | true =>
    obtain ⟨s1, s2⟩ := M.ht_of hh
    have hp := M.p2_pos h
    have hp32 := M.p2_32 s2
    have e2 : M.highV h 1 = M.p2 h - 1 := by rw [M.highV_one, hh]; rfl
    have e3 : M.eChk h 1 = 0 := by rw [M.eChk_one, hh]; rfl
    obtain ⟨HI, hHI⟩ : ∃ x : Int, M.p2 h - 1 = x := ⟨_, rfl⟩
    rw [hHI] at e2
    have hw1 : IntKind.u64.wrap (HI + 1) = M.p2 h := by rw [M.wrapu_id (by omega) (by omega)]; omega
    by_cases c0 : 0 ≤ many
    · have hw2 : IntKind.u64.wrap many = many := M.wrapu_id (by omega) (by omega)
      by_cases c1 : many ≤ 1024
      · by_cases c2 : many ≤ M.p2 h
        · have hc := M.cnt_mk s1 s2 c0 c1 c2
          unfold M.bdV M.bdE
          rw [hc]
          by_cases c3 : many = 0
          · rw [if_pos c3]
            subst c3
            generalize M.p2 h = P at *
            clear hHI hc
            go_enter Try.func29, Try.ntmps29
            go_wp2_with (first | (go_at_call 53; refine (leaves_any h 1 _ (by omega) (by omega)).mono ?_; rw [e1, e2, e3]; rintro e w1 ⟨rfl, hb1⟩; have D1 := (Bd.new w1 49 0 HI); obtain ⟨D1a, D1b⟩ := D1.facts; have B1 := hidq (below_one (o := .cells #[.int .u64 0, .int .u64 HI] 49) hb1); clear hb1))
            go_ret2
            exact ⟨rfl, B1.out⟩
          · rw [if_neg c3]
            have c4 : (many == 0) = false := by rw [beq_eq_false_iff_ne]; exact c3
            obtain ⟨d1, d2⟩ := M.dep_many s1 s2 (show 1 ≤ many by omega) c2
            have hw3 : IntKind.i64.wrap (h - M.dep many) = h - M.dep many := by rw [IntKind.wrap_i64]; omega
            have hw4 : IntKind.u64.wrap (h - M.dep many) = h - M.dep many := M.wrapu_id (by omega) (by omega)
            obtain ⟨m1, m2⟩ := M.mul_bd c0 c1 (show 0 ≤ h - M.dep many by omega) (by omega)
            have hw5 : IntKind.u64.wrap (many * (h - M.dep many)) = many * (h - M.dep many) := M.wrapu_id m1 (by omega)
            generalize M.p2 h = P at *
            generalize hdm : M.dep many = dm at *
            clear hHI hc
            go_enter Try.func29, Try.ntmps29
            go_wp2_with (first | (go_at_call 53; refine (leaves_any h 1 _ (by omega) (by omega)).mono ?_; rw [e1, e2, e3]; rintro e w1 ⟨rfl, hb1⟩; have D1 := (Bd.new w1 49 0 HI); obtain ⟨D1a, D1b⟩ := D1.facts; have B1 := hidq (below_one (o := .cells #[.int .u64 0, .int .u64 HI] 49) hb1); clear hb1) | (go_at_call 54; refine (greatestPower_any many _ (by omega) (by omega)).mono ?_; rintro e w' ⟨rfl, hw⟩; subst w'))
            go_ret2
            exact ⟨rfl, B1.out⟩
        · have hc : M.cntB h many = false := by unfold M.cntB; rw [decide_eq_false c2, Bool.and_false]
          unfold M.bdV M.bdE
          rw [hc]
          generalize M.p2 h = P at *
          clear hHI hc
          go_enter Try.func29, Try.ntmps29
          go_wp2_with (first | (go_at_call 53; refine (leaves_any h 1 _ (by omega) (by omega)).mono ?_; rw [e1, e2, e3]; rintro e w1 ⟨rfl, hb1⟩; have D1 := (Bd.new w1 49 0 HI); obtain ⟨D1a, D1b⟩ := D1.facts; have B1 := hidq (below_one (o := .cells #[.int .u64 0, .int .u64 HI] 49) hb1); clear hb1))
          go_ret2
          exact ⟨rfl, B1.out⟩
      · have hc : M.cntB h many = false := by unfold M.cntB; rw [decide_eq_false c1, Bool.and_false]; rfl
        unfold M.bdV M.bdE
        rw [hc]
        generalize M.p2 h = P at *
        clear hHI hc
        go_enter Try.func29, Try.ntmps29
        go_wp2_with (first | (go_at_call 53; refine (leaves_any h 1 _ (by omega) (by omega)).mono ?_; rw [e1, e2, e3]; rintro e w1 ⟨rfl, hb1⟩; have D1 := (Bd.new w1 49 0 HI); obtain ⟨D1a, D1b⟩ := D1.facts; have B1 := hidq (below_one (o := .cells #[.int .u64 0, .int .u64 HI] 49) hb1); clear hb1))
        go_ret2
        exact ⟨rfl, B1.out⟩
    · have hc : M.cntB h many = false := by unfold M.cntB; rw [decide_eq_false c0, Bool.and_false]; rfl
      unfold M.bdV M.bdE
      rw [hc]
      generalize M.p2 h = P at *
      clear hHI hc
      go_enter Try.func29, Try.ntmps29
      go_wp2_with (first | (go_at_call 53; refine (leaves_any h 1 _ (by omega) (by omega)).mono ?_; rw [e1, e2, e3]; rintro e w1 ⟨rfl, hb1⟩; have D1 := (Bd.new w1 49 0 HI); obtain ⟨D1a, D1b⟩ := D1.facts; have B1 := hidq (below_one (o := .cells #[.int .u64 0, .int .u64 HI] 49) hb1); clear hb1))
      go_ret2
      exact ⟨rfl, B1.out⟩
end Go.Proofs.Ytmicgojojkkkhaa
namespace Go.Proofs.Ytmicgojojkkkhaa
open Go.RowKit
theorem M.live10a : M.cvL 2 [1] = [(3, 0), (4, 0)] := by decide +kernel
end Go.Proofs.Ytmicgojojkkkhaa
