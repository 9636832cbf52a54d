/-
  The document's own Open of layer 13, at every input. Conditions: the slice holds terms.
-/
import Derived.Test.YthmiekinjfaflaaGreatZD4
import Derived.Test.YthmiekinjfaflaaGreatZR1
import Derived.Test.YthmiekinjfaflaaGreatZSt8
namespace Go.Proofs.YthmiekinjfaflaaGreat
open Go.RowKit
set_option maxRecDepth 100000 in
set_option maxHeartbeats 4000000 in
theorem ropn_oct {A : List M.Tm} {l : Bool} {b : M.Blk} {q : M.Sea} {t : Int} {r : Bool} (h : M.opn A (false, l, b, q, t) = r) {vl : Value} (w : World) (u : Ts w vl A) :
    Calls Tryz.prog 20 #[vl, (.agg #[.bool (false, l, b, q, t).1, .bool (false, l, b, q, t).2.1, .int .u64 (M.nu (false, l, b, q, t).2.2.1.1), .int .u64 (M.nu (false, l, b, q, t).2.2.1.2), .int .u64 (M.nu (false, l, b, q, t).2.2.2.1.1.1), .int .u64 (M.nu (false, l, b, q, t).2.2.2.1.1.2), .int .u64 (M.nu (false, l, b, q, t).2.2.2.1.2.1), .int .u64 (M.nu (false, l, b, q, t).2.2.2.1.2.2), .int .i64 (false, l, b, q, t).2.2.2.2])] w fun e w' => e = .returned (.bool r) ∧ Below w.heap.size w w' := by
  have X0 := hidq (Bx9.new w (false, l, b, q, t))
  have U0 := hidq (u.alloc (.cells #[.bool (false, l, b, q, t).1, .bool (false, l, b, q, t).2.1, .int .u64 (M.nu (false, l, b, q, t).2.2.1.1), .int .u64 (M.nu (false, l, b, q, t).2.2.1.2), .int .u64 (M.nu (false, l, b, q, t).2.2.2.1.1.1), .int .u64 (M.nu (false, l, b, q, t).2.2.2.1.1.2), .int .u64 (M.nu (false, l, b, q, t).2.2.2.1.2.1), .int .u64 (M.nu (false, l, b, q, t).2.2.2.1.2.2), .int .i64 (false, l, b, q, t).2.2.2.2] 29))
  have B0 := hidq (show Below w.heap.size w (w.alloc (.cells #[.bool (false, l, b, q, t).1, .bool (false, l, b, q, t).2.1, .int .u64 (M.nu (false, l, b, q, t).2.2.1.1), .int .u64 (M.nu (false, l, b, q, t).2.2.1.2), .int .u64 (M.nu (false, l, b, q, t).2.2.2.1.1.1), .int .u64 (M.nu (false, l, b, q, t).2.2.2.1.1.2), .int .u64 (M.nu (false, l, b, q, t).2.2.2.1.2.1), .int .u64 (M.nu (false, l, b, q, t).2.2.2.1.2.2), .int .i64 (false, l, b, q, t).2.2.2.2] 29)) from below_one (Below.refl _ _))
  clear u
  by_cases hc : M.chkV A (false, l, b, q, t) = 0
  · have HC := hidq (fun W (u : Ts W vl A) => rcheck7_eq hc W u)
    rw [opn_chk hc, show M.sld A (false, l, b, q, t) = l by simp [M.sld]] at h
    clear hc
    subst h
    cases l with
    | false =>
      go_enter Tryz.func20, Tryz.ntmps20
      go_wp2_with (first | (go_at_call 36; refine (HC.out _ U0.out).mono ?_; rintro e w1 ⟨rfl, hb1⟩; have X1 := X0.out.below hb1; have cv := X1.cells; have U1 := hidq (U0.out.below hb1); have B1 := hidq (below_trans B0.out hb1); clear hb1 X1))
      go_ret
      exact ⟨rfl, B1.out⟩
    | true =>
      go_enter Tryz.func20, Tryz.ntmps20
      go_wp2_with (first | (go_at_call 36; refine (HC.out _ U0.out).mono ?_; rintro e w1 ⟨rfl, hb1⟩; have X1 := X0.out.below hb1; have cv := X1.cells; have U1 := hidq (U0.out.below hb1); have B1 := hidq (below_trans B0.out hb1); clear hb1 X1))
      go_ret
      exact ⟨rfl, B1.out⟩
  · have HC := hidq (fun W (u : Ts W vl A) => rcheck7_eq (chk_one hc) W u)
    rw [opn_no hc] at h
    clear hc
    subst h
    go_enter Tryz.func20, Tryz.ntmps20
    go_wp2_with (first | (go_at_call 36; refine (HC.out _ U0.out).mono ?_; rintro e w1 ⟨rfl, hb1⟩; have X1 := X0.out.below hb1; have cv := X1.cells; have U1 := hidq (U0.out.below hb1); have B1 := hidq (below_trans B0.out hb1); clear hb1 X1))
    go_ret
    exact ⟨rfl, B1.out⟩
set_option maxRecDepth 100000 in
set_option maxHeartbeats 4000000 in
theorem ropn_sym {A : List M.Tm} {l : Bool} {b : M.Blk} {q : M.Sea} {t : Int} {r : Bool} (h : M.opn A (true, l, b, q, t) = r) {vl : Value} (w : World) (u : Ts w vl A) :
    Calls Tryz.prog 20 #[vl, (.agg #[.bool (true, l, b, q, t).1, .bool (true, l, b, q, t).2.1, .int .u64 (M.nu (true, l, b, q, t).2.2.1.1), .int .u64 (M.nu (true, l, b, q, t).2.2.1.2), .int .u64 (M.nu (true, l, b, q, t).2.2.2.1.1.1), .int .u64 (M.nu (true, l, b, q, t).2.2.2.1.1.2), .int .u64 (M.nu (true, l, b, q, t).2.2.2.1.2.1), .int .u64 (M.nu (true, l, b, q, t).2.2.2.1.2.2), .int .i64 (true, l, b, q, t).2.2.2.2])] w fun e w' => e = .returned (.bool r) ∧ Below w.heap.size w w' := by
  have X0 := hidq (Bx9.new w (true, l, b, q, t))
  have U0 := hidq (u.alloc (.cells #[.bool (true, l, b, q, t).1, .bool (true, l, b, q, t).2.1, .int .u64 (M.nu (true, l, b, q, t).2.2.1.1), .int .u64 (M.nu (true, l, b, q, t).2.2.1.2), .int .u64 (M.nu (true, l, b, q, t).2.2.2.1.1.1), .int .u64 (M.nu (true, l, b, q, t).2.2.2.1.1.2), .int .u64 (M.nu (true, l, b, q, t).2.2.2.1.2.1), .int .u64 (M.nu (true, l, b, q, t).2.2.2.1.2.2), .int .i64 (true, l, b, q, t).2.2.2.2] 29))
  have B0 := hidq (show Below w.heap.size w (w.alloc (.cells #[.bool (true, l, b, q, t).1, .bool (true, l, b, q, t).2.1, .int .u64 (M.nu (true, l, b, q, t).2.2.1.1), .int .u64 (M.nu (true, l, b, q, t).2.2.1.2), .int .u64 (M.nu (true, l, b, q, t).2.2.2.1.1.1), .int .u64 (M.nu (true, l, b, q, t).2.2.2.1.1.2), .int .u64 (M.nu (true, l, b, q, t).2.2.2.1.2.1), .int .u64 (M.nu (true, l, b, q, t).2.2.2.1.2.2), .int .i64 (true, l, b, q, t).2.2.2.2] 29)) from below_one (Below.refl _ _))
  by_cases hc : M.chkV A (true, l, b, q, t) = 0
  · have HC := hidq (fun W (u : Ts W vl A) => rcheck7_eq hc W u)
    rw [opn_chk hc] at h
    have hm := (M.chkV_0.1 hc).2
    clear hc
    obtain ⟨t0, t1⟩ := (M.mb_iff.1 hm).2 rfl
    dsimp only at t0 t1
    have hl : l = false := by have := congrArg (fun x => x.2.1) (M.mb_sym hm rfl); exact this
    subst hl
    obtain ⟨k, rfl⟩ : ∃ k : Nat, t = k := ⟨t.toNat, by omega⟩
    rw [M.mb_sym hm rfl] at h
    dsimp only at h
    rw [M.sld_ofT] at h
    clear hm
    obtain ⟨a0, cap, rfl, q1, q2, q3⟩ := u.form
    obtain ⟨bb, off, rfl⟩ := q3 (by omega)
    have HK := hidq (show k < A.length by omega)
    clear u q3
    obtain ⟨⟨c1, c2, c3⟩, hT⟩ : ∃ c, M.at_ A k = c := ⟨_, rfl⟩
    rw [hT] at h
    have HT := hidq hT
    clear hT
    rw [show (!decide ((c1, c2, c3).1 = 5)) = (c1 != 5) from rfl] at h
    subst h
    go_enter Tryz.func20, Tryz.ntmps20
    go_wp2_with (first | (go_at_call 36; refine (HC.out _ U0.out).mono ?_; rintro e w1 ⟨rfl, hb1⟩; have X1 := X0.out.below hb1; have cv := X1.cells; obtain ⟨y1, -, -⟩ := Ts.cell (U0.out.below hb1) HK.out; have B1 := hidq (below_trans B0.out hb1); rw [HT.out] at y1; dsimp only at y1; clear hb1 X1))
    go_ret
    exact ⟨rfl, B1.out⟩
  · have HC := hidq (fun W (u : Ts W vl A) => rcheck7_eq (chk_one hc) W u)
    rw [opn_no hc] at h
    clear hc u
    subst h
    go_enter Tryz.func20, Tryz.ntmps20
    go_wp2_with (first | (go_at_call 36; refine (HC.out _ U0.out).mono ?_; rintro e w1 ⟨rfl, hb1⟩; have X1 := X0.out.below hb1; have cv := X1.cells; have U1 := hidq (U0.out.below hb1); have B1 := hidq (below_trans B0.out hb1); clear hb1 X1))
    go_ret
    exact ⟨rfl, B1.out⟩
set_option maxRecDepth 100000 in
theorem ropn_eq {A : List M.Tm} {v : M.Val} {r : Bool} (h : M.opn A v = r) {vl : Value} (w : World) (u : Ts w vl A) :
    Calls Tryz.prog 20 #[vl, (.agg #[.bool v.1, .bool v.2.1, .int .u64 (M.nu v.2.2.1.1), .int .u64 (M.nu v.2.2.1.2), .int .u64 (M.nu v.2.2.2.1.1.1), .int .u64 (M.nu v.2.2.2.1.1.2), .int .u64 (M.nu v.2.2.2.1.2.1), .int .u64 (M.nu v.2.2.2.1.2.2), .int .i64 v.2.2.2.2])] w fun e w' => e = .returned (.bool r) ∧ Below w.heap.size w w' := by
  obtain ⟨s, l, b, q, t⟩ := v
  cases s with
  | true => exact ropn_sym h w u
  | false => exact ropn_oct h w u
end Go.Proofs.YthmiekinjfaflaaGreat
namespace Go.Proofs.YthmiekinjfaflaaGreat
open Go.RowKit
set_option maxRecDepth 100000 in
set_option maxHeartbeats 4000000 in
theorem rwalk_no {A : List M.Tm} {v : M.Val} {S : List Int} (h : ¬ (M.opn A v = true ∧ M.sdB S = true)) {vl vs : Value} (w : World) (u : Ts w vl A) (us : Is w vs S) :
    Calls Tryz.prog 41 #[vl, (.agg #[.bool v.1, .bool v.2.1, .int .u64 (M.nu v.2.2.1.1), .int .u64 (M.nu v.2.2.1.2), .int .u64 (M.nu v.2.2.2.1.1.1), .int .u64 (M.nu v.2.2.2.1.1.2), .int .u64 (M.nu v.2.2.2.1.2.1), .int .u64 (M.nu v.2.2.2.1.2.2), .int .i64 v.2.2.2.2]), vs] w fun e w' => ∃ v', e = .returned (.tuple #[(.agg #[.bool M.zV.1, .bool M.zV.2.1, .int .u64 (M.nu M.zV.2.2.1.1), .int .u64 (M.nu M.zV.2.2.1.2), .int .u64 (M.nu M.zV.2.2.2.1.1.1), .int .u64 (M.nu M.zV.2.2.2.1.1.2), .int .u64 (M.nu M.zV.2.2.2.1.2.1), .int .u64 (M.nu M.zV.2.2.2.1.2.2), .int .i64 M.zV.2.2.2.2]), v', .int .i64 1]) ∧ w'.ownsRow w.heap.size 39 3 v' 0 (elTm.cells []) ∧ Below w.heap.size w w' := by
  rw [zV_eq]
  have Z0 := hidq (zbox (w.alloc (.cells #[.bool v.1, .bool v.2.1, .int .u64 (M.nu v.2.2.1.1), .int .u64 (M.nu v.2.2.1.2), .int .u64 (M.nu v.2.2.2.1.1.1), .int .u64 (M.nu v.2.2.2.1.1.2), .int .u64 (M.nu v.2.2.2.1.2.1), .int .u64 (M.nu v.2.2.2.1.2.2), .int .i64 v.2.2.2.2] 29)))
  rw [World.size_alloc] at Z0
  have X0 := hidq ((Bx9.new w v).alloc (.cells #[.bool false, .bool false, .int .u64 0, .int .u64 0, .int .u64 0, .int .u64 0, .int .u64 0, .int .u64 0, .int .i64 0] 29))
  have U0 := hidq ((u.alloc (.cells #[.bool v.1, .bool v.2.1, .int .u64 (M.nu v.2.2.1.1), .int .u64 (M.nu v.2.2.1.2), .int .u64 (M.nu v.2.2.2.1.1.1), .int .u64 (M.nu v.2.2.2.1.1.2), .int .u64 (M.nu v.2.2.2.1.2.1), .int .u64 (M.nu v.2.2.2.1.2.2), .int .i64 v.2.2.2.2] 29)).alloc (.cells #[.bool false, .bool false, .int .u64 0, .int .u64 0, .int .u64 0, .int .u64 0, .int .u64 0, .int .u64 0, .int .i64 0] 29))
  have I0 := hidq ((us.alloc (.cells #[.bool v.1, .bool v.2.1, .int .u64 (M.nu v.2.2.1.1), .int .u64 (M.nu v.2.2.1.2), .int .u64 (M.nu v.2.2.2.1.1.1), .int .u64 (M.nu v.2.2.2.1.1.2), .int .u64 (M.nu v.2.2.2.1.2.1), .int .u64 (M.nu v.2.2.2.1.2.2), .int .i64 v.2.2.2.2] 29)).alloc (.cells #[.bool false, .bool false, .int .u64 0, .int .u64 0, .int .u64 0, .int .u64 0, .int .u64 0, .int .u64 0, .int .i64 0] 29))
  have B0 := hidq (show Below w.heap.size w ((w.alloc (.cells #[.bool v.1, .bool v.2.1, .int .u64 (M.nu v.2.2.1.1), .int .u64 (M.nu v.2.2.1.2), .int .u64 (M.nu v.2.2.2.1.1.1), .int .u64 (M.nu v.2.2.2.1.1.2), .int .u64 (M.nu v.2.2.2.1.2.1), .int .u64 (M.nu v.2.2.2.1.2.2), .int .i64 v.2.2.2.2] 29)).alloc (.cells #[.bool false, .bool false, .int .u64 0, .int .u64 0, .int .u64 0, .int .u64 0, .int .u64 0, .int .u64 0, .int .i64 0] 29)) from below_one (below_one (Below.refl _ _)))
  obtain ⟨as_, cs, rfl, q1, q2, q3⟩ := us.form
  have HP := hidq q3
  clear u us q3
  cases ho : M.opn A v with
  | false =>
    have HO := hidq (fun W (u : Ts W vl A) => ropn_eq ho W u)
    clear h ho
    go_enter Tryz.func41, Tryz.ntmps41
    go_wp2_with (first | (go_at_call 20; refine (HO.out _ U0.out).mono ?_; rintro e w1 ⟨rfl, hb1⟩; have XW := Z0.out.below hb1; obtain ⟨c0, c1, c2, c3, c4, c5, c6, c7, c8⟩ := XW.cells; obtain ⟨f0, f1, f2, f3, f4, f5, f6, f7, f8⟩ := XW.frozen; have Z1 := hidq XW; have X1 := hidq (X0.out.below hb1); have U1 := hidq (U0.out.below hb1); have I1 := hidq (I0.out.below hb1); have B1 := hidq (below_trans B0.out hb1); clear hb1 XW))
    refine bodyPost_ret (v := .tuple #[.agg #[.bool _, .bool _, .int .u64 _, .int .u64 _, .int .u64 _, .int .u64 _, .int .u64 _, .int .u64 _, .int .i64 _], _, .int .i64 _]) (by simp [results, go_sem, c0, c1, c2, c3, c4, c5, c6, c7, c8, Tryz.results41]) rfl ⟨_, rfl, World.ownsRow_nil _ _ _ _, below_set9 B1.out (by omega) _ _ _ _ _ _ _ _ _⟩
  | true =>
    have HO := hidq (fun W (u : Ts W vl A) => ropn_eq ho W u)
    have hsd : ¬ M.sdB S = true := fun hs => h ⟨ho, hs⟩
    clear h ho
    by_cases hl : S.length ≤ 32
    · have HS : Hid (¬ ∀ q s, q < S.length → S[q]? = some s → s = 0 ∨ s = 1) := fun hall => hsd (M.sdB_iff.2 ⟨hl, fun s hs => by
        obtain ⟨q, hq, rfl⟩ := List.mem_iff_getElem.1 hs
        exact hall q _ hq (List.getElem?_eq_getElem hq)⟩)
      clear hsd
      generalize hN : S.length = N at *
      have HN := hidq hN
      clear hN
      have hli : ¬ (32 : Int) < N := by omega
      go_enter Tryz.func41, Tryz.ntmps41
      go_wp2_with (first | (go_at_call 20; refine (HO.out _ U0.out).mono ?_; rintro e w1 ⟨rfl, hb1⟩; have XW := Z0.out.below hb1; obtain ⟨c0, c1, c2, c3, c4, c5, c6, c7, c8⟩ := XW.cells; obtain ⟨f0, f1, f2, f3, f4, f5, f6, f7, f8⟩ := XW.frozen; have Z1 := hidq XW; have X1 := hidq (X0.out.below hb1); have U1 := hidq (U0.out.below hb1); have I1 := hidq (I0.out.below hb1); have B1 := hidq (below_trans B0.out hb1); clear hb1 XW))
      obtain ⟨wz, hwz⟩ : ∃ wz, wz = w1 := ⟨_, rfl⟩
      subst hwz
      go_loopw [28] (fun i wr => ∃ k : Nat, k ≤ N ∧ i = .int .i64 k ∧ (∀ q s, q < k → S[q]? = some s → s = 0 ∨ s = 1) ∧ wr = wz) (fun i _ => N - (intOf i).toNat)
      case atStart => exact ⟨0, by omega, rfl, fun q s hq => by omega, rfl⟩
      case round =>
        obtain ⟨k, hk, rfl, hgood, hwr⟩ := hrel
        subst hwr
        have HG := hidq hgood
        clear hgood
        by_cases hlt : k < N
        · have hki : (k : Int) < N := by omega
          obtain ⟨s, hs⟩ : ∃ s, S[k]? = some s := ⟨_, List.getElem?_eq_getElem (by rw [HN.out]; exact hlt)⟩
          obtain ⟨bI, oI, rfl⟩ := HP.out (by omega)
          have ci := Is.cellq I1.out hs
          have HSk := hidq hs
          clear hs
          by_cases s0 : s = 0
          · subst s0
            go_wp2
            go_roundw
            case rel => exact ⟨k + 1, by omega, by go_num, fun q s hq hs => by
              rcases Nat.lt_or_ge q k with h | h
              · exact HG.out q s h hs
              · obtain rfl : q = k := by omega
                rw [HSk.out] at hs; cases hs; exact .inl rfl, trivial⟩
            case measure => simp [intOf]; omega
          · have s0b : (s == 0) = false := beq_eq_false_iff_ne.2 s0
            have s0c : (s != 0) = true := by simpa using s0
            by_cases s1 : s = 1
            · subst s1
              go_wp2
              go_roundw
              case rel => exact ⟨k + 1, by omega, by go_num, fun q s hq hs => by
                rcases Nat.lt_or_ge q k with h | h
                · exact HG.out q s h hs
                · obtain rfl : q = k := by omega
                  rw [HSk.out] at hs; cases hs; exact .inr rfl, trivial⟩
              case measure => simp [intOf]; omega
            · have s1b : (s == 1) = false := beq_eq_false_iff_ne.2 s1
              have s1c : (s != 1) = true := by simpa using s1
              go_wp2
              refine bodyPost_ret (v := .tuple #[.agg #[.bool _, .bool _, .int .u64 _, .int .u64 _, .int .u64 _, .int .u64 _, .int .u64 _, .int .u64 _, .int .i64 _], _, .int .i64 _]) (by simp [results, go_sem, c0, c1, c2, c3, c4, c5, c6, c7, c8, Tryz.results41]) rfl ⟨_, rfl, World.ownsRow_nil _ _ _ _, below_set9 B1.out (by omega) _ _ _ _ _ _ _ _ _⟩
        · obtain rfl : k = N := by omega
          exact absurd HG.out HS.out
    · have hli : (32 : Int) < S.length := by omega
      clear hsd
      generalize S.length = N at *
      go_enter Tryz.func41, Tryz.ntmps41
      go_wp2_with (first | (go_at_call 20; refine (HO.out _ U0.out).mono ?_; rintro e w1 ⟨rfl, hb1⟩; have XW := Z0.out.below hb1; obtain ⟨c0, c1, c2, c3, c4, c5, c6, c7, c8⟩ := XW.cells; obtain ⟨f0, f1, f2, f3, f4, f5, f6, f7, f8⟩ := XW.frozen; have Z1 := hidq XW; have X1 := hidq (X0.out.below hb1); have U1 := hidq (U0.out.below hb1); have I1 := hidq (I0.out.below hb1); have B1 := hidq (below_trans B0.out hb1); clear hb1 XW))
      refine bodyPost_ret (v := .tuple #[.agg #[.bool _, .bool _, .int .u64 _, .int .u64 _, .int .u64 _, .int .u64 _, .int .u64 _, .int .u64 _, .int .i64 _], _, .int .i64 _]) (by simp [results, go_sem, c0, c1, c2, c3, c4, c5, c6, c7, c8, Tryz.results41]) rfl ⟨_, rfl, World.ownsRow_nil _ _ _ _, below_set9 B1.out (by omega) _ _ _ _ _ _ _ _ _⟩
set_option maxRecDepth 100000 in
set_option maxHeartbeats 8000000 in
theorem rwalk_yes {A : List M.Tm} {v : M.Val} {S : List Int} (ho : M.opn A v = true) (hsd : M.sdB S = true) {x : M.Val} {L : List M.Tm} {n : Int} (h : M.wkR S A v = (x, L, n)) {vl vs : Value} (w : World) (u : Ts w vl A) (us : Is w vs S) :
    Calls Tryz.prog 41 #[vl, (.agg #[.bool v.1, .bool v.2.1, .int .u64 (M.nu v.2.2.1.1), .int .u64 (M.nu v.2.2.1.2), .int .u64 (M.nu v.2.2.2.1.1.1), .int .u64 (M.nu v.2.2.2.1.1.2), .int .u64 (M.nu v.2.2.2.1.2.1), .int .u64 (M.nu v.2.2.2.1.2.2), .int .i64 v.2.2.2.2]), vs] w fun e w' => ∃ v', e = .returned (.tuple #[(.agg #[.bool x.1, .bool x.2.1, .int .u64 (M.nu x.2.2.1.1), .int .u64 (M.nu x.2.2.1.2), .int .u64 (M.nu x.2.2.2.1.1.1), .int .u64 (M.nu x.2.2.2.1.1.2), .int .u64 (M.nu x.2.2.2.1.2.1), .int .u64 (M.nu x.2.2.2.1.2.2), .int .i64 x.2.2.2.2]), v', .int .i64 n]) ∧ w'.ownsRow w.heap.size 39 3 v' L.length (elTm.cells L) ∧ Below w.heap.size w w' := by
  have Z0 := hidq (zbox (w.alloc (.cells #[.bool v.1, .bool v.2.1, .int .u64 (M.nu v.2.2.1.1), .int .u64 (M.nu v.2.2.1.2), .int .u64 (M.nu v.2.2.2.1.1.1), .int .u64 (M.nu v.2.2.2.1.1.2), .int .u64 (M.nu v.2.2.2.1.2.1), .int .u64 (M.nu v.2.2.2.1.2.2), .int .i64 v.2.2.2.2] 29)))
  rw [World.size_alloc] at Z0
  have X0 := hidq ((Bx9.new w v).alloc (.cells #[.bool false, .bool false, .int .u64 0, .int .u64 0, .int .u64 0, .int .u64 0, .int .u64 0, .int .u64 0, .int .i64 0] 29))
  have U0 := hidq ((u.alloc (.cells #[.bool v.1, .bool v.2.1, .int .u64 (M.nu v.2.2.1.1), .int .u64 (M.nu v.2.2.1.2), .int .u64 (M.nu v.2.2.2.1.1.1), .int .u64 (M.nu v.2.2.2.1.1.2), .int .u64 (M.nu v.2.2.2.1.2.1), .int .u64 (M.nu v.2.2.2.1.2.2), .int .i64 v.2.2.2.2] 29)).alloc (.cells #[.bool false, .bool false, .int .u64 0, .int .u64 0, .int .u64 0, .int .u64 0, .int .u64 0, .int .u64 0, .int .i64 0] 29))
  have B0 := hidq (show Below w.heap.size w ((w.alloc (.cells #[.bool v.1, .bool v.2.1, .int .u64 (M.nu v.2.2.1.1), .int .u64 (M.nu v.2.2.1.2), .int .u64 (M.nu v.2.2.2.1.1.1), .int .u64 (M.nu v.2.2.2.1.1.2), .int .u64 (M.nu v.2.2.2.1.2.1), .int .u64 (M.nu v.2.2.2.1.2.2), .int .i64 v.2.2.2.2] 29)).alloc (.cells #[.bool false, .bool false, .int .u64 0, .int .u64 0, .int .u64 0, .int .u64 0, .int .u64 0, .int .u64 0, .int .i64 0] 29)) from below_one (below_one (Below.refl _ _)))
  obtain ⟨as_, cs, rfl, q1, q2, q3⟩ := us.form
  obtain ⟨al, cl, rfl, -, -, -⟩ := u.form
  have HP := hidq q3
  have US := hidq us
  have HO := hidq (fun W (u : Ts W (.slice al A.length cl) A) => ropn_eq ho W u)
  have HA := hidq (M.opn_iff.1 ho).1.1
  have HOp := hidq ho
  obtain ⟨hl, hgs⟩ := M.sdB_iff.1 hsd
  have HG := hidq (fun q s (hs : S[q]? = some s) => hgs s (List.mem_of_getElem? hs))
  have HH := hidq h
  clear u us q3 ho hsd h hgs
  generalize hN : S.length = N at *
  have HN := hidq hN
  clear hN
  have hli : ¬ (32 : Int) < N := by omega
  go_enter Tryz.func41, Tryz.ntmps41
  go_wp2_with (first | (go_at_call 20; refine (HO.out _ U0.out).mono ?_; rintro e w1 ⟨rfl, hb1⟩; have Z1 := hidq (Z0.out.below hb1); have X1 := hidq (X0.out.below hb1); have U1 := hidq (U0.out.below hb1); have B1 := hidq (below_trans B0.out hb1); have G1 := hidq (show w.heap.size + 2 ≤ w1.heap.size by have := hb1.size; simpa using this); clear hb1))
  obtain ⟨wz, hwz⟩ : ∃ wz, wz = w1 := ⟨_, rfl⟩
  subst hwz
  go_loopw [28] (fun i wr => ∃ k : Nat, k ≤ N ∧ i = .int .i64 k ∧ wr = wz) (fun i _ => N - (intOf i).toNat)
  case atStart => exact ⟨0, by omega, rfl, rfl⟩
  case round =>
    obtain ⟨k, hk, rfl, hwr⟩ := hrel
    subst hwr
    by_cases hlt : k < N
    · have hki : (k : Int) < N := by omega
      obtain ⟨s, hs⟩ : ∃ s, S[k]? = some s := ⟨_, List.getElem?_eq_getElem (by rw [HN.out]; exact hlt)⟩
      obtain ⟨bI, oI, rfl⟩ := HP.out (by omega)
      have ci := Is.cellq (US.out.below B1.out) hs
      have hg := HG.out k s hs
      clear hs
      rcases hg with rfl | rfl
      · go_wp2
        go_roundw
        case rel => exact ⟨k + 1, by omega, by go_num, trivial⟩
        case measure => simp [intOf]; omega
      · go_wp2
        go_roundw
        case rel => exact ⟨k + 1, by omega, by go_num, trivial⟩
        case measure => simp [intOf]; omega
    · obtain rfl : N = k := by omega
      have hki : ¬ (N : Int) < N := by omega
      go_wp2_with (first | (at_builtin; refine wpList_append_sl (E := elTm) rfl _ _ rfl (w.heap.size + 2) _ 0 [] rfl (World.ownsRow_nil _ _ _ _) _ A rfl U1.out (by have := HA.out; omega) G1.out ?_; intro v2 w2 hown2 hgrow2; have O2 := hidq hown2; have hb2 := (Below.refl wr.heap.size wr).grown hgrow2 (Nat.le_refl _) (fun q hq => by cases hq); have Z2 := hidq (Z1.out.below hb2); have X2 := hidq (X1.out.below hb2); have B2 := hidq (below_trans B1.out hb2); have G2 := hidq (show w.heap.size + 2 ≤ w2.heap.size by have := hb2.size; have := G1.out; omega); clear hown2 hgrow2 hb2))
      obtain ⟨wy, hwy⟩ : ∃ wy, wy = w2 := ⟨_, rfl⟩
      subst hwy
      clear X1 Z1 U1 B1 G1
      go_loopw [44, 0] (fun i y wr => ∃ (k : Nat) (B : List M.Tm) (z : M.Val), k ≤ N ∧ i = .int .i64 k ∧ M.wkR (S.take k) A v = (z, B, 0) ∧ wr.ownsRow (w.heap.size + 2) 39 3 y B.length (elTm.cells B) ∧ Bx9 wr w.heap.size z ∧ Bx9 wr (w.heap.size + 1) M.zV ∧ Below w.heap.size w wr) (fun i _ _ => N - (intOf i).toNat)
      case atStart => exact ⟨0, A, v, by omega, rfl, rfl, by have := O2.out; rw [Nat.zero_add, List.nil_append] at this; exact this, X2.out, Z2.out, B2.out⟩
      case round =>
        clear O2 X2 Z2 B2 G2
        obtain ⟨k, B, z, hk, rfl, hw, hown, hx, hz, hb⟩ := hrel
        obtain ⟨ay, cy, rfl, -⟩ := own_formq hown
        obtain ⟨oz, -⟩ := M.wkR_facts (S.take k) HOp.out (fun s hs => by
          obtain ⟨q, hq⟩ := List.getElem?_of_mem (List.mem_of_mem_take hs)
          have := HG.out q s hq
          omega) hw
        by_cases hlt : k < N
        · have hki : (k : Int) < N := by omega
          obtain ⟨s, hs⟩ : ∃ s, S[k]? = some s := ⟨_, List.getElem?_eq_getElem (by rw [HN.out]; exact hlt)⟩
          obtain ⟨bI, oI, rfl⟩ := HP.out (by omega)
          have ci := Is.cellq (US.out.below hb) hs
          obtain ⟨⟨x1, L1, n1⟩, hq⟩ : ∃ q, M.partA B z s = q := ⟨_, rfl⟩
          have FY := hidq (opn_fit oz)
          have UB := hidq (ts_ofown hown (M.opn_iff.1 oz).1)
          have HQ := hidq hq
          have XR := hidq hx
          have ZR := hidq hz
          have BW := hidq hb
          have XV := hx
          obtain ⟨d0, d1, d2, d3, d4, d5, d6, d7, d8⟩ := XV.cells; obtain ⟨h0, h1, h2, h3, h4, h5, h6, h7, h8⟩ := XV.frozen
          have SR := hidq (show w.heap.size + 2 ≤ wr.heap.size by have := hz.lt; omega)
          by_cases hn : n1 = 0
          · subst hn
            have NX := hidq ((M.wkR_next hw hs).trans hq)
            clear hw hown hx hz hb oz hs hq XV
            go_wp2_with (first | (go_at_call 39; refine (rvpart_eq FY.out HQ.out _ UB.out).mono ?_; rintro e w3 ⟨v3, rfl, ho3, hb3⟩; have XW := (ZR.out.below hb3).alloc (.cells #[.bool x1.1, .bool x1.2.1, .int .u64 (M.nu x1.2.2.1.1), .int .u64 (M.nu x1.2.2.1.2), .int .u64 (M.nu x1.2.2.2.1.1.1), .int .u64 (M.nu x1.2.2.2.1.1.2), .int .u64 (M.nu x1.2.2.2.1.2.1), .int .u64 (M.nu x1.2.2.2.1.2.2), .int .i64 x1.2.2.2.2] 29); obtain ⟨c0, c1, c2, c3, c4, c5, c6, c7, c8⟩ := XW.cells; obtain ⟨f0, f1, f2, f3, f4, f5, f6, f7, f8⟩ := XW.frozen; have XV := (XR.out.below hb3).alloc (.cells #[.bool x1.1, .bool x1.2.1, .int .u64 (M.nu x1.2.2.1.1), .int .u64 (M.nu x1.2.2.1.2), .int .u64 (M.nu x1.2.2.2.1.1.1), .int .u64 (M.nu x1.2.2.2.1.1.2), .int .u64 (M.nu x1.2.2.2.1.2.1), .int .u64 (M.nu x1.2.2.2.1.2.2), .int .i64 x1.2.2.2.2] 29); obtain ⟨d0, d1, d2, d3, d4, d5, d6, d7, d8⟩ := XV.cells; obtain ⟨h0, h1, h2, h3, h4, h5, h6, h7, h8⟩ := XV.frozen; have ZS := hidq XW; have XS := hidq XV; have BS := hidq (below_one (o := (.cells #[.bool x1.1, .bool x1.2.1, .int .u64 (M.nu x1.2.2.1.1), .int .u64 (M.nu x1.2.2.1.2), .int .u64 (M.nu x1.2.2.2.1.1.1), .int .u64 (M.nu x1.2.2.2.1.1.2), .int .u64 (M.nu x1.2.2.2.1.2.1), .int .u64 (M.nu x1.2.2.2.1.2.2), .int .i64 x1.2.2.2.2] 29)) (below_trans BW.out hb3)); have OS := hidq (own_keptq ho3 (below_one (o := (.cells #[.bool x1.1, .bool x1.2.1, .int .u64 (M.nu x1.2.2.1.1), .int .u64 (M.nu x1.2.2.1.2), .int .u64 (M.nu x1.2.2.2.1.1.1), .int .u64 (M.nu x1.2.2.2.1.1.2), .int .u64 (M.nu x1.2.2.2.1.2.1), .int .u64 (M.nu x1.2.2.2.1.2.2), .int .i64 x1.2.2.2.2] 29)) (Below.refl w3.heap.size w3))); clear XW XV hb3 ho3))
            go_roundw
            case rel => exact ⟨k + 1, L1, x1, by omega, by go_num, NX.out, own_lowerq (own_set9 OS.out (by have := SR.out; omega) _ _ _ _ _ _ _ _ _) SR.out, XS.out.set x1, ZS.out.other9 (by omega) _ _ _ _ _ _ _ _ _, below_set9 BS.out (Nat.le_refl _) _ _ _ _ _ _ _ _ _⟩
            case measure => simp [intOf]; omega
          · have NX := M.wkR_stop hw hs (by rw [hq]; exact hn)
            rw [hq, HH.out] at NX
            have hnb : (n1 == 0) = false := beq_eq_false_iff_ne.2 hn
            clear hw hown hx hz hb oz hs hq XV
            simp only [Prod.mk.injEq] at NX
            obtain ⟨rfl, rfl, rfl⟩ := NX
            go_wp2_with (first | (go_at_call 39; refine (rvpart_eq FY.out HQ.out _ UB.out).mono ?_; rintro e w3 ⟨v3, rfl, ho3, hb3⟩; have XW := (ZR.out.below hb3).alloc (.cells #[.bool x1.1, .bool x1.2.1, .int .u64 (M.nu x1.2.2.1.1), .int .u64 (M.nu x1.2.2.1.2), .int .u64 (M.nu x1.2.2.2.1.1.1), .int .u64 (M.nu x1.2.2.2.1.1.2), .int .u64 (M.nu x1.2.2.2.1.2.1), .int .u64 (M.nu x1.2.2.2.1.2.2), .int .i64 x1.2.2.2.2] 29); obtain ⟨c0, c1, c2, c3, c4, c5, c6, c7, c8⟩ := XW.cells; obtain ⟨f0, f1, f2, f3, f4, f5, f6, f7, f8⟩ := XW.frozen; have XV := (XR.out.below hb3).alloc (.cells #[.bool x1.1, .bool x1.2.1, .int .u64 (M.nu x1.2.2.1.1), .int .u64 (M.nu x1.2.2.1.2), .int .u64 (M.nu x1.2.2.2.1.1.1), .int .u64 (M.nu x1.2.2.2.1.1.2), .int .u64 (M.nu x1.2.2.2.1.2.1), .int .u64 (M.nu x1.2.2.2.1.2.2), .int .i64 x1.2.2.2.2] 29); obtain ⟨d0, d1, d2, d3, d4, d5, d6, d7, d8⟩ := XV.cells; obtain ⟨h0, h1, h2, h3, h4, h5, h6, h7, h8⟩ := XV.frozen; have ZS := hidq XW; have XS := hidq XV; have BS := hidq (below_one (o := (.cells #[.bool x1.1, .bool x1.2.1, .int .u64 (M.nu x1.2.2.1.1), .int .u64 (M.nu x1.2.2.1.2), .int .u64 (M.nu x1.2.2.2.1.1.1), .int .u64 (M.nu x1.2.2.2.1.1.2), .int .u64 (M.nu x1.2.2.2.1.2.1), .int .u64 (M.nu x1.2.2.2.1.2.2), .int .i64 x1.2.2.2.2] 29)) (below_trans BW.out hb3)); have OS := hidq (own_keptq ho3 (below_one (o := (.cells #[.bool x1.1, .bool x1.2.1, .int .u64 (M.nu x1.2.2.1.1), .int .u64 (M.nu x1.2.2.1.2), .int .u64 (M.nu x1.2.2.2.1.1.1), .int .u64 (M.nu x1.2.2.2.1.1.2), .int .u64 (M.nu x1.2.2.2.1.2.1), .int .u64 (M.nu x1.2.2.2.1.2.2), .int .i64 x1.2.2.2.2] 29)) (Below.refl w3.heap.size w3))); clear XW XV hb3 ho3))
            refine bodyPost_ret (v := .tuple #[.agg #[.bool _, .bool _, .int .u64 _, .int .u64 _, .int .u64 _, .int .u64 _, .int .u64 _, .int .u64 _, .int .i64 _], _, .int .i64 _]) (by simp [results, go_sem, c0, c1, c2, c3, c4, c5, c6, c7, c8, Tryz.results41]; exact ⟨rfl, rfl, rfl, rfl, rfl, rfl, rfl, rfl, rfl⟩) rfl ⟨_, rfl, World.ownsRow_nil _ _ _ _, below_set9 BS.out (by omega) _ _ _ _ _ _ _ _ _⟩
        · obtain rfl : N = k := by omega
          have hki : ¬ (N : Int) < N := by omega
          rw [List.take_of_length_le (by rw [HN.out]; exact Nat.le_refl _), HH.out] at hw
          simp only [Prod.mk.injEq] at hw
          obtain ⟨rfl, rfl, rfl⟩ := hw
          have XV := hx
          obtain ⟨d0, d1, d2, d3, d4, d5, d6, d7, d8⟩ := XV.cells; obtain ⟨h0, h1, h2, h3, h4, h5, h6, h7, h8⟩ := XV.frozen
          have XW := hz
          obtain ⟨c0, c1, c2, c3, c4, c5, c6, c7, c8⟩ := XW.cells; obtain ⟨f0, f1, f2, f3, f4, f5, f6, f7, f8⟩ := XW.frozen
          have OS := hidq (own_lowerq hown (show w.heap.size ≤ w.heap.size + 2 by omega))
          have OT := hidq hown
          have BW := hidq hb
          clear hown hx hz hb oz XV XW
          go_wp2
          refine bodyPost_ret (v := .tuple #[.agg #[.bool _, .bool _, .int .u64 _, .int .u64 _, .int .u64 _, .int .u64 _, .int .u64 _, .int .u64 _, .int .i64 _], _, .int .i64 _]) (by simp [results, go_sem, c0, c1, c2, c3, c4, c5, c6, c7, c8, Tryz.results41]) rfl ⟨_, rfl, own_lowerq (own_set9 OT.out (by omega) _ _ _ _ _ _ _ _ _) (by omega), below_set9 BW.out (by omega) _ _ _ _ _ _ _ _ _⟩
end Go.Proofs.YthmiekinjfaflaaGreat
namespace Go.Proofs.YthmiekinjfaflaaGreat
open Go.RowKit
set_option maxRecDepth 100000 in
theorem rpath_is (h a b : Int) (w : World) (hka : M.okB h a = true) (hkb : M.okB h b = true) (hab : M.abv a b = true) :
    Calls Tryz.prog 40 #[.int .i64 h, .int .u64 a, .int .u64 b] w fun e w' => ∃ v, e = .returned (.tuple #[v, .int .i64 0]) ∧ Is w' v (M.pathL a b) ∧ Below w.heap.size w w' :=
  (rpath_yes h a b w hka hkb hab).mono fun _ _ ⟨v, h1, h2, h3⟩ => ⟨v, h1, is_path h2, h3⟩
set_option maxRecDepth 100000 in
theorem rwalk_eq {A : List M.Tm} {v : M.Val} {S : List Int} {x : M.Val} {L : List M.Tm} {n : Int} (h : M.walkA A v S = (x, L, n)) {vl vs : Value} (w : World) (u : Ts w vl A) (us : Is w vs S) :
    Calls Tryz.prog 41 #[vl, (.agg #[.bool v.1, .bool v.2.1, .int .u64 (M.nu v.2.2.1.1), .int .u64 (M.nu v.2.2.1.2), .int .u64 (M.nu v.2.2.2.1.1.1), .int .u64 (M.nu v.2.2.2.1.1.2), .int .u64 (M.nu v.2.2.2.1.2.1), .int .u64 (M.nu v.2.2.2.1.2.2), .int .i64 v.2.2.2.2]), vs] w fun e w' => ∃ v', e = .returned (.tuple #[(.agg #[.bool x.1, .bool x.2.1, .int .u64 (M.nu x.2.2.1.1), .int .u64 (M.nu x.2.2.1.2), .int .u64 (M.nu x.2.2.2.1.1.1), .int .u64 (M.nu x.2.2.2.1.1.2), .int .u64 (M.nu x.2.2.2.1.2.1), .int .u64 (M.nu x.2.2.2.1.2.2), .int .i64 x.2.2.2.2]), v', .int .i64 n]) ∧ w'.ownsRow w.heap.size 39 3 v' L.length (elTm.cells L) ∧ Below w.heap.size w w' := by
  by_cases hp : M.opn A v = true ∧ M.sdB S = true
  · rw [walk_yes hp.1 hp.2] at h
    exact rwalk_yes hp.1 hp.2 h w u us
  · rw [walk_no hp] at h
    simp only [Prod.mk.injEq] at h
    obtain ⟨rfl, rfl, rfl⟩ := h
    exact rwalk_no hp w u us
set_option maxRecDepth 100000 in
set_option maxHeartbeats 4000000 in
theorem rnode13_eq {A : List M.Tm} {h : Int} {m : M.Val} {n : Int} {x : M.Val} {L : List M.Tm} {q : Int} (hx : M.nodeA A h m n = (x, L, q)) (hn0 : 0 ≤ n) (hn1 : n ≤ 18446744073709551615) {vl : Value} (w : World) (u : Ts w vl A) :
    Calls Tryz.prog 38 #[vl, .int .i64 h, (.agg #[.bool m.1, .bool m.2.1, .int .u64 (M.nu m.2.2.1.1), .int .u64 (M.nu m.2.2.1.2), .int .u64 (M.nu m.2.2.2.1.1.1), .int .u64 (M.nu m.2.2.2.1.1.2), .int .u64 (M.nu m.2.2.2.1.2.1), .int .u64 (M.nu m.2.2.2.1.2.2), .int .i64 m.2.2.2.2]), .int .u64 n] w fun e w' => ∃ v', e = .returned (.tuple #[(.agg #[.bool x.1, .bool x.2.1, .int .u64 (M.nu x.2.2.1.1), .int .u64 (M.nu x.2.2.1.2), .int .u64 (M.nu x.2.2.2.1.1.1), .int .u64 (M.nu x.2.2.2.1.1.2), .int .u64 (M.nu x.2.2.2.1.2.1), .int .u64 (M.nu x.2.2.2.1.2.2), .int .i64 x.2.2.2.2]), v', .int .i64 q]) ∧ w'.ownsRow w.heap.size 39 3 v' L.length (elTm.cells L) ∧ Below w.heap.size w w' := by
  have Z0 := hidq (zbox (w.alloc (.cells #[.bool m.1, .bool m.2.1, .int .u64 (M.nu m.2.2.1.1), .int .u64 (M.nu m.2.2.1.2), .int .u64 (M.nu m.2.2.2.1.1.1), .int .u64 (M.nu m.2.2.2.1.1.2), .int .u64 (M.nu m.2.2.2.1.2.1), .int .u64 (M.nu m.2.2.2.1.2.2), .int .i64 m.2.2.2.2] 29)))
  rw [World.size_alloc] at Z0
  have X0 := hidq ((Bx9.new w m).alloc (.cells #[.bool false, .bool false, .int .u64 0, .int .u64 0, .int .u64 0, .int .u64 0, .int .u64 0, .int .u64 0, .int .i64 0] 29))
  have U0 := hidq ((u.alloc (.cells #[.bool m.1, .bool m.2.1, .int .u64 (M.nu m.2.2.1.1), .int .u64 (M.nu m.2.2.1.2), .int .u64 (M.nu m.2.2.2.1.1.1), .int .u64 (M.nu m.2.2.2.1.1.2), .int .u64 (M.nu m.2.2.2.1.2.1), .int .u64 (M.nu m.2.2.2.1.2.2), .int .i64 m.2.2.2.2] 29)).alloc (.cells #[.bool false, .bool false, .int .u64 0, .int .u64 0, .int .u64 0, .int .u64 0, .int .u64 0, .int .u64 0, .int .i64 0] 29))
  have B0 := hidq (show Below w.heap.size w ((w.alloc (.cells #[.bool m.1, .bool m.2.1, .int .u64 (M.nu m.2.2.1.1), .int .u64 (M.nu m.2.2.1.2), .int .u64 (M.nu m.2.2.2.1.1.1), .int .u64 (M.nu m.2.2.2.1.1.2), .int .u64 (M.nu m.2.2.2.1.2.1), .int .u64 (M.nu m.2.2.2.1.2.2), .int .i64 m.2.2.2.2] 29)).alloc (.cells #[.bool false, .bool false, .int .u64 0, .int .u64 0, .int .u64 0, .int .u64 0, .int .u64 0, .int .u64 0, .int .i64 0] 29)) from below_one (below_one (Below.refl _ _)))
  clear u
  unfold M.nodeA at hx
  cases hk : M.okB h n with
  | false =>
    rw [if_neg (by rw [hk, Bool.false_and]; decide)] at hx
    simp only [Prod.mk.injEq] at hx
    obtain ⟨rfl, rfl, rfl⟩ := hx
    have HK := hidq hk
    clear hk
    rw [zV_eq]
    go_enter Tryz.func38, Tryz.ntmps38
    go_wp2_with (first | (go_at_call 40; refine (rpath_no h 1 n _ (by omega) (by omega) hn0 hn1 (by rw [M.pathE_1 HK.out]; decide)).mono ?_; rw [M.pathE_1 HK.out]; rintro e w1 ⟨rfl, hb1⟩; have XW := Z0.out.below hb1; obtain ⟨c0, c1, c2, c3, c4, c5, c6, c7, c8⟩ := XW.cells; obtain ⟨f0, f1, f2, f3, f4, f5, f6, f7, f8⟩ := XW.frozen; have B1 := hidq (below_trans B0.out hb1); clear hb1 XW))
    refine bodyPost_ret (v := .tuple #[.agg #[.bool _, .bool _, .int .u64 _, .int .u64 _, .int .u64 _, .int .u64 _, .int .u64 _, .int .u64 _, .int .i64 _], _, .int .i64 _]) (by simp [results, go_sem, c0, c1, c2, c3, c4, c5, c6, c7, c8, Tryz.results38]) rfl ⟨_, rfl, World.ownsRow_nil _ _ _ _, below_set9 B1.out (by omega) _ _ _ _ _ _ _ _ _⟩
  | true =>
    have HK := hidq hk
    obtain ⟨k1, k2, k3, k4⟩ := M.ok_of hk
    have K1 := hidq (M.ok_mk k1 k2 (Int.le_refl 1) (by have := M.p2_pos h; omega) : M.okB h 1 = true)
    have KA := hidq (M.abv_root k3)
    cases ho : M.opn A m with
    | false =>
      rw [if_neg (by rw [ho, Bool.and_false]; decide)] at hx
      simp only [Prod.mk.injEq] at hx
      obtain ⟨rfl, rfl, rfl⟩ := hx
      have HO := hidq (fun W (u : Ts W vl A) => ropn_eq ho W u)
      clear hk k1 k2 k3 k4 ho
      rw [zV_eq]
      go_enter Tryz.func38, Tryz.ntmps38
      go_wp2_with (first | (go_at_call 40; refine (rpath_is h 1 n _ K1.out HK.out KA.out).mono ?_; rintro e w1 ⟨v1, rfl, i1, hb1⟩; have I1 := hidq i1; have XV := X0.out.below hb1; obtain ⟨d0, d1, d2, d3, d4, d5, d6, d7, d8⟩ := XV.cells; have X1 := hidq XV; have Z1 := hidq (Z0.out.below hb1); have U1 := hidq (U0.out.below hb1); have B1 := hidq (below_trans B0.out hb1); clear hb1 XV i1) | (go_at_call 20; refine (HO.out _ U1.out).mono ?_; rintro e w2 ⟨rfl, hb2⟩; have XV := X1.out.below hb2; obtain ⟨d0, d1, d2, d3, d4, d5, d6, d7, d8⟩ := XV.cells; have XW := Z1.out.below hb2; obtain ⟨c0, c1, c2, c3, c4, c5, c6, c7, c8⟩ := XW.cells; obtain ⟨f0, f1, f2, f3, f4, f5, f6, f7, f8⟩ := XW.frozen; have Z2 := hidq XW; have U2 := hidq (U1.out.below hb2); have I2 := hidq (I1.out.below hb2); have B2 := hidq (below_trans B1.out hb2); clear hb2 XV XW))
      refine bodyPost_ret (v := .tuple #[.agg #[.bool _, .bool _, .int .u64 _, .int .u64 _, .int .u64 _, .int .u64 _, .int .u64 _, .int .u64 _, .int .i64 _], _, .int .i64 _]) (by simp [results, go_sem, c0, c1, c2, c3, c4, c5, c6, c7, c8, Tryz.results38]) rfl ⟨_, rfl, World.ownsRow_nil _ _ _ _, below_set9 B2.out (by omega) _ _ _ _ _ _ _ _ _⟩
    | true =>
      rw [if_pos (by rw [ho, hk]; rfl), ← walk_yes ho (M.path_sd hk)] at hx
      have HO := hidq (fun W (u : Ts W vl A) => ropn_eq ho W u)
      have HW := hidq hx
      clear hk k1 k2 k3 k4 ho hx
      go_enter Tryz.func38, Tryz.ntmps38
      go_wp2_with (first | (go_at_call 40; refine (rpath_is h 1 n _ K1.out HK.out KA.out).mono ?_; rintro e w1 ⟨v1, rfl, i1, hb1⟩; have I1 := hidq i1; have XV := X0.out.below hb1; obtain ⟨d0, d1, d2, d3, d4, d5, d6, d7, d8⟩ := XV.cells; have X1 := hidq XV; have Z1 := hidq (Z0.out.below hb1); have U1 := hidq (U0.out.below hb1); have B1 := hidq (below_trans B0.out hb1); clear hb1 XV i1) | (go_at_call 20; refine (HO.out _ U1.out).mono ?_; rintro e w2 ⟨rfl, hb2⟩; have XV := X1.out.below hb2; obtain ⟨d0, d1, d2, d3, d4, d5, d6, d7, d8⟩ := XV.cells; have XW := Z1.out.below hb2; obtain ⟨c0, c1, c2, c3, c4, c5, c6, c7, c8⟩ := XW.cells; obtain ⟨f0, f1, f2, f3, f4, f5, f6, f7, f8⟩ := XW.frozen; have Z2 := hidq XW; have U2 := hidq (U1.out.below hb2); have I2 := hidq (I1.out.below hb2); have B2 := hidq (below_trans B1.out hb2); clear hb2 XV XW) | (go_at_call 41; refine (rwalk_eq HW.out _ U2.out I2.out).mono ?_; rintro e w3 ⟨v3, rfl, ho3, hb3⟩; have XW := Z2.out.below hb3; obtain ⟨c0, c1, c2, c3, c4, c5, c6, c7, c8⟩ := XW.cells; obtain ⟨f0, f1, f2, f3, f4, f5, f6, f7, f8⟩ := XW.frozen; have O3 := hidq ho3; have L3 := hidq (show w.heap.size + 1 < w2.heap.size from Z2.out.lt); have B3 := hidq (below_trans B2.out hb3); clear hb3 XW ho3))
      refine bodyPost_ret (v := .tuple #[.agg #[.bool _, .bool _, .int .u64 _, .int .u64 _, .int .u64 _, .int .u64 _, .int .u64 _, .int .u64 _, .int .i64 _], _, .int .i64 _]) (by simp [results, go_sem, c0, c1, c2, c3, c4, c5, c6, c7, c8, Tryz.results38]) rfl ⟨_, rfl, own_lowerq (own_set9 O3.out L3.out _ _ _ _ _ _ _ _ _) (by have := L3.out; omega), below_set9 B3.out (by omega) _ _ _ _ _ _ _ _ _⟩
end Go.Proofs.YthmiekinjfaflaaGreat
