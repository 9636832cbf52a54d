/-
  The document's own May, Check, shut, made, own and two of layer 7, at every input. Conditions: the slice holds terms; whole numbers are such.
-/
import Derived.Test.YthmiekinjfaflaaGreatZNX
namespace Go.Proofs.YthmiekinjfaflaaGreat
open Go.RowKit
theorem nu0 : M.nu 0#64 = 0 := rfl
theorem blk_zero {b : M.Blk} (h1 : M.nu b.1 = 0) (h2 : M.nu b.2 = 0) : b = (0#64, 0#64) := by
  obtain ⟨x, y⟩ := b
  rw [← nu0] at h1 h2
  rw [show x = 0#64 from M.nu_inj.1 h1, show y = 0#64 from M.nu_inj.1 h2]
theorem sea_zero {q : M.Sea} (h1 : M.nu q.1.1 = 0) (h2 : M.nu q.1.2 = 0) (h3 : M.nu q.2.1 = 0) (h4 : M.nu q.2.2 = 0) : q = ((0#64, 0#64), (0#64, 0#64)) := by
  obtain ⟨x, y⟩ := q
  rw [blk_zero (b := x) h1 h2, blk_zero (b := y) h3 h4]
theorem ne_beq {x : Int} (h : ¬ x = 0) : (x == 0) = false := by simpa using h
set_option maxRecDepth 100000 in
set_option maxHeartbeats 4000000 in
theorem rmay_sym {A : List M.Tm} {l : Bool} {b : M.Blk} {q : M.Sea} {t : Int} {r : Bool} (h : M.mb A (true, l, b, q, t) = r) {vl : Value} (w : World) (u : Ts w vl A) :
    Calls Tryz.prog 59 #[vl, (.agg #[.bool (true, l, b, q, t).1, .bool (true, l, b, q, t).2.1, .int .u64 (M.nu (true, l, b, q, t).2.2.1.1), .int .u64 (M.nu (true, l, b, q, t).2.2.1.2), .int .u64 (M.nu (true, l, b, q, t).2.2.2.1.1.1), .int .u64 (M.nu (true, l, b, q, t).2.2.2.1.1.2), .int .u64 (M.nu (true, l, b, q, t).2.2.2.1.2.1), .int .u64 (M.nu (true, l, b, q, t).2.2.2.1.2.2), .int .i64 (true, l, b, q, t).2.2.2.2])] w fun e w' => e = .returned (.bool r) ∧ Below w.heap.size w w' := by
  have heq := eqVa
  obtain ⟨ao, cap, rfl, p1, p2, _⟩ := u.form
  dsimp only
  by_cases hb : l = false ∧ M.nu b.1 = 0 ∧ M.nu b.2 = 0 ∧ M.nu q.1.1 = 0 ∧ M.nu q.1.2 = 0 ∧ M.nu q.2.1 = 0 ∧ M.nu q.2.2 = 0
  · obtain ⟨rfl, h1, h2, h3, h4, h5, h6⟩ := hb
    obtain rfl := blk_zero h1 h2
    obtain rfl := sea_zero h3 h4 h5 h6
    have hr : (0 ≤ t ∧ t < (A.length : Int)) ↔ r = true := by
      rw [← h, M.mb_iff]
      exact ⟨fun h => ⟨rfl, fun _ => h⟩, fun h => h.2 rfl⟩
    dsimp only
    rw [nu0]
    clear u h h1 h2 h3 h4 h5 h6
    generalize A.length = n at *
    by_cases t0 : t < 0
    · obtain rfl : r = false := by cases r with | false => rfl | true => have := hr.2 rfl; omega
      clear hr
      have t1 : ¬ 0 ≤ t := by omega
      go_enter Tryz.func59, Tryz.ntmps59
      go_wp2
      go_ret
      exact ⟨rfl, below_one (Below.refl _ _)⟩
    · have t1 : 0 ≤ t := by omega
      by_cases t2 : t < (n : Int)
      · obtain rfl : r = true := hr.1 ⟨t1, t2⟩
        clear hr t0
        go_enter Tryz.func59, Tryz.ntmps59
        go_wp2
        go_ret
        exact ⟨rfl, below_one (Below.refl _ _)⟩
      · obtain rfl : r = false := by cases r with | false => rfl | true => have := hr.2 rfl; omega
        clear hr t0
        go_enter Tryz.func59, Tryz.ntmps59
        go_wp2
        go_ret
        exact ⟨rfl, below_one (Below.refl _ _)⟩
  · obtain rfl : r = false := by
      rw [← h]
      refine M.mb_not.2 fun hm => hb ?_
      have := hm.1
      unfold M.bare M.ofT at this
      simp at this
      obtain ⟨rfl, rfl, rfl⟩ := this
      exact ⟨rfl, rfl, rfl, rfl, rfl, rfl, rfl⟩
    have key : l = true ∨ (M.nu b.1 == 0) = false ∨ (M.nu b.2 == 0) = false ∨ (M.nu q.1.1 == 0) = false ∨ (M.nu q.1.2 == 0) = false ∨ (M.nu q.2.1 == 0) = false ∨ (M.nu q.2.2 == 0) = false := by
      cases l with
      | true => exact .inl rfl
      | false =>
        refine .inr ?_
        by_cases h1 : M.nu b.1 = 0
        · by_cases h2 : M.nu b.2 = 0
          · by_cases h3 : M.nu q.1.1 = 0
            · by_cases h4 : M.nu q.1.2 = 0
              · by_cases h5 : M.nu q.2.1 = 0
                · by_cases h6 : M.nu q.2.2 = 0
                  · exact absurd ⟨rfl, h1, h2, h3, h4, h5, h6⟩ hb
                  · exact .inr (.inr (.inr (.inr (.inr (ne_beq h6)))))
                · exact .inr (.inr (.inr (.inr (.inl (ne_beq h5)))))
              · exact .inr (.inr (.inr (.inl (ne_beq h4))))
            · exact .inr (.inr (.inl (ne_beq h3)))
          · exact .inr (.inl (ne_beq h2))
        · exact .inl (ne_beq h1)
    clear u h hb
    generalize A.length = n at *
    rcases key with rfl | hk | hk | hk | hk | hk | hk
    all_goals go_enter Tryz.func59, Tryz.ntmps59
    all_goals go_wp2
    all_goals go_ret
    all_goals first | exact ⟨rfl, below_one (Below.refl _ _)⟩ | exact ⟨by simp [hk], below_one (Below.refl _ _)⟩
set_option maxRecDepth 100000 in
set_option maxHeartbeats 4000000 in
theorem rmay_sea {A : List M.Tm} {b : M.Blk} {q : M.Sea} {t : Int} {r : Bool} (h : M.mb A (false, true, b, q, t) = r) {vl : Value} (w : World) (u : Ts w vl A) :
    Calls Tryz.prog 59 #[vl, (.agg #[.bool (false, true, b, q, t).1, .bool (false, true, b, q, t).2.1, .int .u64 (M.nu (false, true, b, q, t).2.2.1.1), .int .u64 (M.nu (false, true, b, q, t).2.2.1.2), .int .u64 (M.nu (false, true, b, q, t).2.2.2.1.1.1), .int .u64 (M.nu (false, true, b, q, t).2.2.2.1.1.2), .int .u64 (M.nu (false, true, b, q, t).2.2.2.1.2.1), .int .u64 (M.nu (false, true, b, q, t).2.2.2.1.2.2), .int .i64 (false, true, b, q, t).2.2.2.2])] w fun e w' => e = .returned (.bool r) ∧ Below w.heap.size w w' := by
  have heq := eqVa
  obtain ⟨ao, cap, rfl, p1, p2, _⟩ := u.form
  dsimp only
  by_cases hb : M.nu b.1 = 0 ∧ M.nu b.2 = 0 ∧ t = 0
  · obtain ⟨h0, h1, h2⟩ := hb
    obtain rfl := blk_zero h0 h1
    subst h2
    obtain rfl : r = true := by rw [← h]; exact M.mb_iff.2 ⟨rfl, fun h => by cases h⟩
    dsimp only
    rw [nu0]
    clear u h h0 h1
    go_enter Tryz.func59, Tryz.ntmps59
    go_wp2
    go_ret
    exact ⟨rfl, below_one (Below.refl _ _)⟩
  · obtain rfl : r = false := by
      rw [← h]
      refine M.mb_not.2 fun hm => hb ?_
      have := hm.1
      unfold M.bare M.ofS at this
      simp at this
      obtain ⟨rfl, rfl⟩ := this
      exact ⟨rfl, rfl, rfl⟩
    have key : (M.nu b.1 == 0) = false ∨ (M.nu b.2 == 0) = false ∨ (t == 0) = false := by
      refine Decidable.byContradiction fun hn => hb ?_
      simp only [not_or, Bool.not_eq_false, beq_iff_eq] at hn
      exact hn
    clear u h hb
    rcases key with hk | hk | hk
    all_goals go_enter Tryz.func59, Tryz.ntmps59
    all_goals go_wp2
    all_goals go_ret
    all_goals first | exact ⟨rfl, below_one (Below.refl _ _)⟩ | exact ⟨by simp [hk], below_one (Below.refl _ _)⟩
set_option maxRecDepth 100000 in
set_option maxHeartbeats 4000000 in
theorem rmay_blk {A : List M.Tm} {b : M.Blk} {q : M.Sea} {t : Int} {r : Bool} (h : M.mb A (false, false, b, q, t) = r) {vl : Value} (w : World) (u : Ts w vl A) :
    Calls Tryz.prog 59 #[vl, (.agg #[.bool (false, false, b, q, t).1, .bool (false, false, b, q, t).2.1, .int .u64 (M.nu (false, false, b, q, t).2.2.1.1), .int .u64 (M.nu (false, false, b, q, t).2.2.1.2), .int .u64 (M.nu (false, false, b, q, t).2.2.2.1.1.1), .int .u64 (M.nu (false, false, b, q, t).2.2.2.1.1.2), .int .u64 (M.nu (false, false, b, q, t).2.2.2.1.2.1), .int .u64 (M.nu (false, false, b, q, t).2.2.2.1.2.2), .int .i64 (false, false, b, q, t).2.2.2.2])] w fun e w' => e = .returned (.bool r) ∧ Below w.heap.size w w' := by
  have heq := eqVa
  obtain ⟨ao, cap, rfl, p1, p2, _⟩ := u.form
  dsimp only
  by_cases hb : M.nu q.1.1 = 0 ∧ M.nu q.1.2 = 0 ∧ M.nu q.2.1 = 0 ∧ M.nu q.2.2 = 0 ∧ t = 0
  · obtain ⟨h0, h1, h2, h3, h4⟩ := hb
    obtain rfl := sea_zero h0 h1 h2 h3
    subst h4
    obtain rfl : r = true := by rw [← h]; exact M.mb_iff.2 ⟨rfl, fun h => by cases h⟩
    dsimp only
    rw [nu0]
    clear u h h0 h1 h2 h3
    go_enter Tryz.func59, Tryz.ntmps59
    go_wp2
    go_ret
    exact ⟨rfl, below_one (Below.refl _ _)⟩
  · obtain rfl : r = false := by
      rw [← h]
      refine M.mb_not.2 fun hm => hb ?_
      have := hm.1
      unfold M.bare M.ofB at this
      simp at this
      obtain ⟨rfl, rfl⟩ := this
      exact ⟨rfl, rfl, rfl, rfl, rfl⟩
    have key : (M.nu q.1.1 == 0) = false ∨ (M.nu q.1.2 == 0) = false ∨ (M.nu q.2.1 == 0) = false ∨ (M.nu q.2.2 == 0) = false ∨ (t == 0) = false := by
      refine Decidable.byContradiction fun hn => hb ?_
      simp only [not_or, Bool.not_eq_false, beq_iff_eq] at hn
      exact hn
    clear u h hb
    rcases key with hk | hk | hk | hk | hk
    all_goals go_enter Tryz.func59, Tryz.ntmps59
    all_goals go_wp2
    all_goals go_ret
    all_goals first | exact ⟨rfl, below_one (Below.refl _ _)⟩ | exact ⟨by simp [hk], below_one (Below.refl _ _)⟩
set_option maxRecDepth 100000 in
theorem rmay7_eq {A : List M.Tm} {v : M.Val} {r : Bool} (h : M.mb A v = r) {vl : Value} (w : World) (u : Ts w vl A) :
    Calls Tryz.prog 59 #[vl, (.agg #[.bool v.1, .bool v.2.1, .int .u64 (M.nu v.2.2.1.1), .int .u64 (M.nu v.2.2.1.2), .int .u64 (M.nu v.2.2.2.1.1.1), .int .u64 (M.nu v.2.2.2.1.1.2), .int .u64 (M.nu v.2.2.2.1.2.1), .int .u64 (M.nu v.2.2.2.1.2.2), .int .i64 v.2.2.2.2])] w fun e w' => e = .returned (.bool r) ∧ Below w.heap.size w w' := by
  obtain ⟨s, l, b, q, t⟩ := v
  cases s with
  | true => exact rmay_sym h w u
  | false =>
    cases l with
    | true => exact rmay_sea h w u
    | false => exact rmay_blk h w u
end Go.Proofs.YthmiekinjfaflaaGreat
namespace Go.Proofs.YthmiekinjfaflaaGreat
open Go.RowKit
set_option maxRecDepth 100000 in
set_option maxHeartbeats 4000000 in
theorem rcheck7_eq {A : List M.Tm} {v : M.Val} {n : Int} (h : M.chkV A v = n) {vl : Value} (w : World) (u : Ts w vl A) :
    Calls Tryz.prog 36 #[vl, (.agg #[.bool v.1, .bool v.2.1, .int .u64 (M.nu v.2.2.1.1), .int .u64 (M.nu v.2.2.1.2), .int .u64 (M.nu v.2.2.2.1.1.1), .int .u64 (M.nu v.2.2.2.1.1.2), .int .u64 (M.nu v.2.2.2.1.2.1), .int .u64 (M.nu v.2.2.2.1.2.2), .int .i64 v.2.2.2.2])] w fun e w' => e = .returned (.int .i64 n) ∧ Below w.heap.size w w' := by
  have X0 := hidq (Bx9.new w v)
  have U0 := hidq (u.alloc (.cells #[.bool v.1, .bool v.2.1, .int .u64 (M.nu v.2.2.1.1), .int .u64 (M.nu v.2.2.1.2), .int .u64 (M.nu v.2.2.2.1.1.1), .int .u64 (M.nu v.2.2.2.1.1.2), .int .u64 (M.nu v.2.2.2.1.2.1), .int .u64 (M.nu v.2.2.2.1.2.2), .int .i64 v.2.2.2.2] 29))
  have B0 := hidq (show Below w.heap.size w (w.alloc (.cells #[.bool v.1, .bool v.2.1, .int .u64 (M.nu v.2.2.1.1), .int .u64 (M.nu v.2.2.1.2), .int .u64 (M.nu v.2.2.2.1.1.1), .int .u64 (M.nu v.2.2.2.1.1.2), .int .u64 (M.nu v.2.2.2.1.2.1), .int .u64 (M.nu v.2.2.2.1.2.2), .int .i64 v.2.2.2.2] 29)) from below_one (Below.refl _ _))
  clear u
  by_cases hA : M.Ok A
  · have HC := hidq (show M.chkE A = 0 from if_pos hA)
    obtain ⟨m, hm⟩ : ∃ m, M.mb A v = m := ⟨_, rfl⟩
    have HM := hidq hm
    cases m with
    | true =>
      obtain rfl : 0 = n := by rw [← h]; exact (if_pos ⟨hA, hm⟩).symm
      clear h hA hm
      go_enter Tryz.func36, Tryz.ntmps36
      go_wp2_with (first | (go_at_call 23; refine (rcheck_eq HC.out _ U0.out).mono ?_; rintro e w1 ⟨rfl, hb1⟩; have X1 := X0.out.below hb1; have cv := X1.cells; have U1 := hidq (U0.out.below hb1); have B1 := hidq (below_trans B0.out hb1); clear hb1 X1) | (go_at_call 59; refine (rmay7_eq HM.out _ U1.out).mono ?_; rintro e w2 ⟨rfl, hb2⟩; have B2 := hidq (below_trans B1.out hb2); clear hb2))
      go_ret
      exact ⟨rfl, B2.out⟩
    | false =>
      obtain rfl : 1 = n := by rw [← h]; exact (if_neg fun h => by rw [hm] at h; cases h.2).symm
      clear h hA hm
      go_enter Tryz.func36, Tryz.ntmps36
      go_wp2_with (first | (go_at_call 23; refine (rcheck_eq HC.out _ U0.out).mono ?_; rintro e w1 ⟨rfl, hb1⟩; have X1 := X0.out.below hb1; have cv := X1.cells; have U1 := hidq (U0.out.below hb1); have B1 := hidq (below_trans B0.out hb1); clear hb1 X1) | (go_at_call 59; refine (rmay7_eq HM.out _ U1.out).mono ?_; rintro e w2 ⟨rfl, hb2⟩; have B2 := hidq (below_trans B1.out hb2); clear hb2))
      go_ret
      exact ⟨rfl, B2.out⟩
  · have HC := hidq (show M.chkE A = 1 from if_neg hA)
    obtain rfl : 1 = n := by rw [← h]; exact (if_neg fun h => hA h.1).symm
    clear h hA
    go_enter Tryz.func36, Tryz.ntmps36
    go_wp2_with (first | (go_at_call 23; refine (rcheck_eq HC.out _ U0.out).mono ?_; rintro e w1 ⟨rfl, hb1⟩; have B1 := hidq (below_trans B0.out hb1); clear hb1))
    go_ret
    exact ⟨rfl, B1.out⟩
set_option maxRecDepth 100000 in
set_option maxHeartbeats 4000000 in
theorem rshut_sym {A : List M.Tm} {l : Bool} {b : M.Blk} {q : M.Sea} {t : Int} {r : Bool} (h : M.sld A (true, l, b, q, t) = r) (hm : M.mb A (true, l, b, q, t) = true) {vl : Value} (w : World) (u : Ts w vl A) :
    Calls Tryz.prog 61 #[vl, (.agg #[.bool (true, l, b, q, t).1, .bool (true, l, b, q, t).2.1, .int .u64 (M.nu (true, l, b, q, t).2.2.1.1), .int .u64 (M.nu (true, l, b, q, t).2.2.1.2), .int .u64 (M.nu (true, l, b, q, t).2.2.2.1.1.1), .int .u64 (M.nu (true, l, b, q, t).2.2.2.1.1.2), .int .u64 (M.nu (true, l, b, q, t).2.2.2.1.2.1), .int .u64 (M.nu (true, l, b, q, t).2.2.2.1.2.2), .int .i64 (true, l, b, q, t).2.2.2.2])] w fun e w' => e = .returned (.bool r) ∧ Below w.heap.size w w' := by
  obtain ⟨t0, t1⟩ := (M.mb_iff.1 hm).2 rfl
  dsimp only at t0 t1
  obtain ⟨k, rfl⟩ : ∃ k : Nat, t = k := ⟨t.toNat, by omega⟩
  rw [M.mb_sym hm rfl] at h
  dsimp only at h
  rw [M.sld_ofT] at h
  obtain ⟨a0, cap, rfl, q1, q2, q3⟩ := u.form
  obtain ⟨bb, off, rfl⟩ := q3 (by omega)
  have hkl : k < A.length := by omega
  obtain ⟨x1, x2, x3⟩ := Ts.cell (u.alloc (.cells #[.bool (true, l, b, q, (k : Int)).1, .bool (true, l, b, q, (k : Int)).2.1, .int .u64 (M.nu (true, l, b, q, (k : Int)).2.2.1.1), .int .u64 (M.nu (true, l, b, q, (k : Int)).2.2.1.2), .int .u64 (M.nu (true, l, b, q, (k : Int)).2.2.2.1.1.1), .int .u64 (M.nu (true, l, b, q, (k : Int)).2.2.2.1.1.2), .int .u64 (M.nu (true, l, b, q, (k : Int)).2.2.2.1.2.1), .int .u64 (M.nu (true, l, b, q, (k : Int)).2.2.2.1.2.2), .int .i64 (true, l, b, q, (k : Int)).2.2.2.2] 29)) hkl
  dsimp only at x1 ⊢
  rw [← h]
  clear h u q3 hm x2 x3
  generalize M.at_ A k = t at *
  generalize A.length = n at *
  go_enter Tryz.func61, Tryz.ntmps61
  go_wp2
  go_ret
  exact ⟨rfl, below_one (Below.refl _ _)⟩
set_option maxRecDepth 100000 in
set_option maxHeartbeats 4000000 in
theorem rshut_oct {A : List M.Tm} {l : Bool} {b : M.Blk} {q : M.Sea} {t : Int} {r : Bool} (h : M.sld A (false, l, b, q, t) = r) {vl : Value} (w : World) :
    Calls Tryz.prog 61 #[vl, (.agg #[.bool (false, l, b, q, t).1, .bool (false, l, b, q, t).2.1, .int .u64 (M.nu (false, l, b, q, t).2.2.1.1), .int .u64 (M.nu (false, l, b, q, t).2.2.1.2), .int .u64 (M.nu (false, l, b, q, t).2.2.2.1.1.1), .int .u64 (M.nu (false, l, b, q, t).2.2.2.1.1.2), .int .u64 (M.nu (false, l, b, q, t).2.2.2.1.2.1), .int .u64 (M.nu (false, l, b, q, t).2.2.2.1.2.2), .int .i64 (false, l, b, q, t).2.2.2.2])] w fun e w' => e = .returned (.bool r) ∧ Below w.heap.size w w' := by
  obtain rfl : l = r := by rw [← h]; simp [M.sld]
  clear h
  dsimp only
  go_enter Tryz.func61, Tryz.ntmps61
  go_wp2
  go_ret
  exact ⟨rfl, below_one (Below.refl _ _)⟩
set_option maxRecDepth 100000 in
theorem rshut_eq {A : List M.Tm} {v : M.Val} {r : Bool} (h : M.sld A v = r) (hm : M.mb A v = true) {vl : Value} (w : World) (u : Ts w vl A) :
    Calls Tryz.prog 61 #[vl, (.agg #[.bool v.1, .bool v.2.1, .int .u64 (M.nu v.2.2.1.1), .int .u64 (M.nu v.2.2.1.2), .int .u64 (M.nu v.2.2.2.1.1.1), .int .u64 (M.nu v.2.2.2.1.1.2), .int .u64 (M.nu v.2.2.2.1.2.1), .int .u64 (M.nu v.2.2.2.1.2.2), .int .i64 v.2.2.2.2])] w fun e w' => e = .returned (.bool r) ∧ Below w.heap.size w w' := by
  obtain ⟨s, l, b, q, t⟩ := v
  cases s with
  | true => exact rshut_sym h hm w u
  | false => exact rshut_oct h w
set_option maxRecDepth 100000 in
theorem rmake_eq7 {A : List M.Tm} {t : M.Tm} (ht : M.fitT t) {x n : Int} {L : List M.Tm} (h : M.makeV A t = x) (hn : M.makeE A t = n) (hL : M.makeL A t = L) {v : Value} (w : World) (u : Ts w v A) :
    Calls Tryz.prog 78 #[v, (.agg #[.int .i64 t.1, .int .i64 t.2.1, .int .i64 t.2.2])] w fun e w' => ∃ v', e = .returned (.tuple #[.int .i64 x, v', .int .i64 n]) ∧ w'.ownsRow w.heap.size 39 3 v' L.length (elTm.cells L) ∧ Below w.heap.size w w' := by subst h; subst hn; subst hL; exact rmake_any A t ht v w u
set_option maxRecDepth 100000 in
set_option maxHeartbeats 4000000 in
theorem rmade_eq {A : List M.Tm} {t : M.Tm} (ht : M.fitT t) {x : M.Val} {L : List M.Tm} {n : Int} (h : M.mkT A t = (x, L, n)) {vl : Value} (w : World) (u : Ts w vl A) :
    Calls Tryz.prog 62 #[vl, (.agg #[.int .i64 t.1, .int .i64 t.2.1, .int .i64 t.2.2])] w fun e w' => ∃ v', e = .returned (.tuple #[(.agg #[.bool x.1, .bool x.2.1, .int .u64 (M.nu x.2.2.1.1), .int .u64 (M.nu x.2.2.1.2), .int .u64 (M.nu x.2.2.2.1.1.1), .int .u64 (M.nu x.2.2.2.1.1.2), .int .u64 (M.nu x.2.2.2.1.2.1), .int .u64 (M.nu x.2.2.2.1.2.2), .int .i64 x.2.2.2.2]), v', .int .i64 n]) ∧ w'.ownsRow w.heap.size 39 3 v' L.length (elTm.cells L) ∧ Below w.heap.size w w' := by
  have X0 := hidq (zbox (w.alloc (.cells #[.int .i64 t.1, .int .i64 t.2.1, .int .i64 t.2.2] 39)))
  rw [World.size_alloc] at X0
  have B0 := hidq (show Below w.heap.size w ((w.alloc (.cells #[.int .i64 t.1, .int .i64 t.2.1, .int .i64 t.2.2] 39)).alloc (.cells #[.bool false, .bool false, .int .u64 0, .int .u64 0, .int .u64 0, .int .u64 0, .int .u64 0, .int .u64 0, .int .i64 0] 29)) from below_one (below_one (Below.refl _ _)))
  have U0 := hidq ((u.alloc (.cells #[.int .i64 t.1, .int .i64 t.2.1, .int .i64 t.2.2] 39)).alloc (.cells #[.bool false, .bool false, .int .u64 0, .int .u64 0, .int .u64 0, .int .u64 0, .int .u64 0, .int .u64 0, .int .i64 0] 29))
  have HF := hidq ht
  unfold M.mkT at h
  by_cases he : M.makeE A t = 0
  · rw [if_pos he] at h
    simp only [Prod.mk.injEq] at h
    obtain ⟨rfl, hL, rfl⟩ := h
    obtain ⟨i, hi⟩ : ∃ i, M.makeV A t = i := ⟨_, rfl⟩
    rw [hi]
    rw [show ((.agg #[.bool (M.ofT i).1, .bool (M.ofT i).2.1, .int .u64 (M.nu (M.ofT i).2.2.1.1), .int .u64 (M.nu (M.ofT i).2.2.1.2), .int .u64 (M.nu (M.ofT i).2.2.2.1.1.1), .int .u64 (M.nu (M.ofT i).2.2.2.1.1.2), .int .u64 (M.nu (M.ofT i).2.2.2.1.2.1), .int .u64 (M.nu (M.ofT i).2.2.2.1.2.2), .int .i64 (M.ofT i).2.2.2.2]) : Value) = .agg #[.bool true, .bool false, .int .u64 0, .int .u64 0, .int .u64 0, .int .u64 0, .int .u64 0, .int .u64 0, .int .i64 i] from rfl]
    have HI := hidq hi
    have HE := hidq he
    have HL := hidq hL
    clear u ht hi he hL
    go_enter Tryz.func62, Tryz.ntmps62
    go_wp2_with (first | (go_at_call 78; refine (rmake_eq7 HF.out HI.out HE.out HL.out _ U0.out).mono ?_; rintro e w1 ⟨v', rfl, ho1, hb1⟩; rw [World.size_alloc, World.size_alloc] at ho1; have O1 := hidq ho1; have XW := X0.out.below hb1; obtain ⟨c0, c1, c2, c3, c4, c5, c6, c7, c8⟩ := XW.cells; obtain ⟨f0, f1, f2, f3, f4, f5, f6, f7, f8⟩ := XW.frozen; have B1 := hidq (below_trans B0.out hb1); clear ho1 hb1 XW))
    refine bodyPost_ret (v := .tuple #[.agg #[.bool _, .bool _, .int .u64 _, .int .u64 _, .int .u64 _, .int .u64 _, .int .u64 _, .int .u64 _, .int .i64 _], _, .int .i64 _]) (by simp [results, Tryz.results62, go_sem, c0, c1, c2, c3, c4, c5, c6, c7, c8]) rfl ⟨_, rfl, own_lowerq (own_set9 O1.out (by omega) _ _ _ _ _ _ _ _ _) (by omega), below_set9 B1.out (by omega) _ _ _ _ _ _ _ _ _⟩
  · rw [if_neg he] at h
    simp only [Prod.mk.injEq] at h
    obtain ⟨rfl, rfl, hn⟩ := h
    obtain ⟨i, hi⟩ : ∃ i, M.makeV A t = i := ⟨_, rfl⟩
    obtain ⟨L, hL⟩ : ∃ L, M.makeL A t = L := ⟨_, rfl⟩
    rw [hn] at he
    have HI := hidq hi
    have HE := hidq hn
    have HL := hidq hL
    have he2 : (n == 0) = false := by simpa using he
    rw [zV_eq]
    clear u ht hi hL hn
    go_enter Tryz.func62, Tryz.ntmps62
    go_wp2_with (first | (go_at_call 78; refine (rmake_eq7 HF.out HI.out HE.out HL.out _ U0.out).mono ?_; rintro e w1 ⟨v', rfl, ho1, hb1⟩; have XW := X0.out.below hb1; obtain ⟨c0, c1, c2, c3, c4, c5, c6, c7, c8⟩ := XW.cells; obtain ⟨f0, f1, f2, f3, f4, f5, f6, f7, f8⟩ := XW.frozen; have B1 := hidq (below_trans B0.out hb1); clear ho1 hb1 XW))
    refine bodyPost_ret (v := .tuple #[.agg #[.bool _, .bool _, .int .u64 _, .int .u64 _, .int .u64 _, .int .u64 _, .int .u64 _, .int .u64 _, .int .i64 _], _, .int .i64 _]) (by simp [results, Tryz.results62, go_sem, c0, c1, c2, c3, c4, c5, c6, c7, c8]) rfl ⟨_, rfl, World.ownsRow_nil _ _ _ _, below_set9 B1.out (by omega) _ _ _ _ _ _ _ _ _⟩
set_option maxRecDepth 100000 in
set_option maxHeartbeats 4000000 in
theorem rown_any {A : List M.Tm} (hl : A.length ≤ 65536) {vl : Value} (w : World) (u : Ts w vl A) :
    Calls Tryz.prog 64 #[vl] w fun e w' => ∃ v', e = .returned v' ∧ w'.ownsRow w.heap.size 39 3 v' A.length (elTm.cells A) ∧ Below w.heap.size w w' := by
  have U := hidq u
  clear u
  have HO := hidq (World.ownsRow_nil w w.heap.size 39 3)
  go_enter Tryz.func64, Tryz.ntmps64
  go_wp2_with (at_builtin; refine wpList_append_sl (E := elTm) rfl _ _ rfl w.heap.size _ 0 [] rfl HO.out _ A rfl U.out (by omega) (Nat.le_refl _) ?_; intro v' w2 hown2 hgrow2)
  have hb2 : Below w.heap.size w w2 := below_grownq hgrow2 rfl
  have HO2 := hidq hown2
  clear hown2 hgrow2
  go_wp2
  go_ret
  exact ⟨_, rfl, by have := HO2.out; rw [Nat.zero_add, List.nil_append] at this; exact this, hb2⟩
end Go.Proofs.YthmiekinjfaflaaGreat
namespace Go.Proofs.YthmiekinjfaflaaGreat
open Go.RowKit
def M.twoB (A : List M.Tm) (a b : M.Val) : Bool := decide (M.chkV A a = 0) && (M.mb A b && (a.1 == b.1))
theorem M.chkV_0 {A : List M.Tm} {v : M.Val} : M.chkV A v = 0 ↔ M.Ok A ∧ M.mb A v = true := by
  unfold M.chkV
  by_cases h : M.Ok A ∧ M.mb A v = true
  · rw [if_pos h]; exact ⟨fun _ => h, fun _ => rfl⟩
  · rw [if_neg h]; exact ⟨fun h' => absurd h' (by decide), fun h' => absurd h' h⟩
theorem M.chkV_1 {A : List M.Tm} {v : M.Val} (h : ¬ (M.Ok A ∧ M.mb A v = true)) : M.chkV A v = 1 := if_neg h
theorem M.twoB_iff {A : List M.Tm} {a b : M.Val} : M.twoB A a b = true ↔ M.Ok A ∧ M.Two A a b := by
  unfold M.twoB
  simp only [Bool.and_eq_true, decide_eq_true_eq, M.chkV_0, beq_iff_eq]
  exact ⟨fun h => ⟨h.1.1, h.1.2, h.2.1, h.2.2⟩, fun h => ⟨⟨h.1, h.2.1⟩, h.2.2.1, h.2.2.2⟩⟩
theorem M.mkT_bad {A : List M.Tm} {t : M.Tm} (h : ¬ M.Ok A) : M.mkT A t = (M.zV, [], 1) := by
  unfold M.mkT; rw [M.make_bad h, if_neg (by decide)]
theorem M.mkO_bad {A : List M.Tm} {v : M.Val} (h : ¬ M.Ok A) : M.mkO A v = (M.zV, [], 1) := by
  unfold M.mkO; rw [if_neg h]
theorem M.partA_bad {A : List M.Tm} {v : M.Val} {i : Int} (h : ¬ (M.Ok A ∧ M.PartOk A v i)) : M.partA A v i = (M.zV, [], 1) := by
  unfold M.partA
  by_cases hp : M.PartOk A v i
  · have hA : ¬ M.Ok A := fun hA => h ⟨hA, hp⟩
    rw [if_pos hp, M.mkT_bad hA, M.mkO_bad hA]
    by_cases hs : v.1 = true
    · rw [if_pos hs]
    · rw [if_neg hs]
  · rw [if_neg hp]
theorem M.wrapA_bad {A : List M.Tm} {k v : M.Val} (h : ¬ (M.Ok A ∧ M.WrapOk A k v)) : M.wrapA A k v = (M.zV, [], 1) := by
  unfold M.wrapA
  by_cases hp : M.WrapOk A k v
  · have hA : ¬ M.Ok A := fun hA => h ⟨hA, hp⟩
    rw [if_pos hp, M.mkT_bad hA, M.mkO_bad hA]
    by_cases hs : k.1 = true
    · rw [if_pos hs]
    · rw [if_neg hs]
  · rw [if_neg hp]
theorem ofB_eq (b : M.Blk) : ((.agg #[.bool (M.ofB b).1, .bool (M.ofB b).2.1, .int .u64 (M.nu (M.ofB b).2.2.1.1), .int .u64 (M.nu (M.ofB b).2.2.1.2), .int .u64 (M.nu (M.ofB b).2.2.2.1.1.1), .int .u64 (M.nu (M.ofB b).2.2.2.1.1.2), .int .u64 (M.nu (M.ofB b).2.2.2.1.2.1), .int .u64 (M.nu (M.ofB b).2.2.2.1.2.2), .int .i64 (M.ofB b).2.2.2.2]) : Value) = .agg #[.bool false, .bool false, .int .u64 (M.nu b.1), .int .u64 (M.nu b.2), .int .u64 0, .int .u64 0, .int .u64 0, .int .u64 0, .int .i64 0] := rfl
theorem ofS_eq (s : M.Sea) : ((.agg #[.bool (M.ofS s).1, .bool (M.ofS s).2.1, .int .u64 (M.nu (M.ofS s).2.2.1.1), .int .u64 (M.nu (M.ofS s).2.2.1.2), .int .u64 (M.nu (M.ofS s).2.2.2.1.1.1), .int .u64 (M.nu (M.ofS s).2.2.2.1.1.2), .int .u64 (M.nu (M.ofS s).2.2.2.1.2.1), .int .u64 (M.nu (M.ofS s).2.2.2.1.2.2), .int .i64 (M.ofS s).2.2.2.2]) : Value) = .agg #[.bool false, .bool true, .int .u64 0, .int .u64 0, .int .u64 (M.nu s.1.1), .int .u64 (M.nu s.1.2), .int .u64 (M.nu s.2.1), .int .u64 (M.nu s.2.2), .int .i64 0] := rfl
theorem ofT_eq (i : Int) : ((.agg #[.bool (M.ofT i).1, .bool (M.ofT i).2.1, .int .u64 (M.nu (M.ofT i).2.2.1.1), .int .u64 (M.nu (M.ofT i).2.2.1.2), .int .u64 (M.nu (M.ofT i).2.2.2.1.1.1), .int .u64 (M.nu (M.ofT i).2.2.2.1.1.2), .int .u64 (M.nu (M.ofT i).2.2.2.1.2.1), .int .u64 (M.nu (M.ofT i).2.2.2.1.2.2), .int .i64 (M.ofT i).2.2.2.2]) : Value) = .agg #[.bool true, .bool false, .int .u64 0, .int .u64 0, .int .u64 0, .int .u64 0, .int .u64 0, .int .u64 0, .int .i64 i] := rfl
end Go.Proofs.YthmiekinjfaflaaGreat
