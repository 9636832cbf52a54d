/-
  What the document's own Within comes to at every input. Condition: the slice holds terms.
-/
import Derived.Test.YtkggcfkjmmijbaaDoorT9
namespace Go.Proofs.YtkggcfkjmmijbaaDoor
open Go.RowKit
theorem own_lowq {w : World} {b b' : Nat} {e : TypeId} {size : Nat} {v : Value} {n : Nat} {xs : List Value} (h : w.ownsRow b e size v n xs) (hb : b' ≤ b) : w.ownsRow b' e size v n xs := by
  refine ⟨h.1, ?_⟩
  rcases h.2 with hn | ⟨g, cap, cur, h1, h2, rest⟩
  · exact .inl hn
  · exact .inr ⟨g, cap, cur, h1, Nat.le_trans hb h2, rest⟩
theorem Tryd.infoBoolq : (Tryd.prog.info? 4).map (fun i => (i.zero, i.size, i.bytes)) = some (some (.bool false), 1, 1) := by kernel_rfl
theorem Is.one (W : World) (x : Int) (h : M.fitI x) : Is (W.alloc (.cells #[.int .i64 x] 3)) (.slice (some ⟨W.heap.size, 0, none⟩) 1 1) [x] :=
  Sl.of_own (own_lit1 W 0 _ rfl (Nat.zero_le _) x) (fun y hy => by rw [List.mem_singleton] at hy; subst hy; exact h)
theorem M.row_top {A : List M.Tm} (hA : M.Ok A) {m : Nat} (hm : m < A.length) (n : Nat) : M.rowB (fun j => false || decide (j = m)) n = M.rowB (M.rkB A m (m + 1)) n := by
  refine M.rowB_congr fun j _ => ?_
  rw [Bool.eq_iff_iff, M.rkB_iff hA hm (by omega), M.Rk.top hA hm]
  simp
set_option maxRecDepth 100000 in
set_option maxHeartbeats 4000000 in
theorem rwithin_any (A : List M.Tm) (i : Int) (v : Value) (w : World) (u : Ts w v A) :
    Calls Tryd.prog 22 #[v, .int .i64 i] w fun e w' => ∃ v', e = .returned (.tuple #[v', .int .i64 (M.deepE A i)]) ∧ w'.ownsRow w.heap.size 3 1 v' (M.withinL A i).length (elInt.cells (M.withinL A i)) ∧ Below w.heap.size w w' := by
  by_cases ht : M.thr A i = true
  · have e1 : M.withinL A i = M.outL (M.rkB A i.toNat 0) (i.toNat + 1) := by unfold M.withinL; rw [if_pos ht]
    have e2 : M.deepE A i = 0 := by unfold M.deepE; rw [if_pos ht]
    rw [e1, e2]
    obtain ⟨hA, h0, h1⟩ := M.thr_iff.1 ht
    obtain ⟨m, rfl⟩ : ∃ m : Nat, i = m := ⟨i.toNat, by omega⟩
    rw [Int.toNat_natCast]
    have HT := hidq ht
    have HA := hidq hA
    obtain ⟨ao, cap, rfl, q1, q2, q4⟩ := u.form
    obtain ⟨b, off, rfl⟩ := q4 (by omega)
    have U0 := hidq u
    have UB := hidq (fun X (hb : Below w.heap.size w X) => u.below hb)
    have hl := hA.1
    have hml : m < A.length := by omega
    have HTOP := hidq (M.row_top hA hml)
    clear u ht hA e1 e2 q4
    generalize hN : A.length = N at *
    have HN := hidq hN
    clear hN
    obtain ⟨i0, hi, hz0, hz1, hz2⟩ := info_partsq Tryd.infoBoolq
    obtain ⟨n, hn⟩ : ∃ n, m + 1 = n := ⟨_, rfl⟩
    have hni : (m : Int) + 1 = n := by omega
    have hnw := wrap64 (x := (n : Int)) (by omega) (by omega)
    have Hn := hidq hn
    have hmn : m < n := by omega
    have hmni : (m : Int) < n := by omega
    rw [hn] at HTOP ⊢
    clear hn
    obtain ⟨f, hf⟩ : ∃ f, M.rkB A m 0 = f := ⟨_, rfl⟩
    rw [hf]
    have HF0 := hidq hf
    clear hf
    go_enter Tryd.func22, Tryd.ntmps22
    go_wp2_with (first | (go_at_call 34; refine (rthere_eq HT.out _ U0.out).mono ?_; rintro r w1 ⟨rfl, hb1⟩; have B1 := hidq hb1; have sz1 := hb1.size; clear hb1) | (at_make; refine wpList_make_full _ rfl _ _ 60 rfl w.heap.size 4 i0 (.bool false) 1 Tryd.underlying60 hi hz0 hz1 _ _ _ _ n rfl rfl (by first | rfl | omega) (by first | rfl | omega) ?b2 ?b3 ?b4 ?_))
    case b2 => rw [hz2]; have := Hn.out; omega
    case b3 => unfold maxLen; have := Hn.out; omega
    case b4 => exact sz1
    intro w2 hown hgrow
    rw [elBool_zeros] at hown
    have hB2 : Below w.heap.size w w2 := B1.out.grown hgrow sz1 (fun k hk => by cases hk)
    have hg2 : w1.heap.size < w2.heap.size := (hown.lt _ rfl).2
    have hgl := sz1
    generalize w1.heap.size = g at *
    clear hgrow B1
    have c0 := ownB_cell hown hmn
    have f0 := hown.frozenAt m
    have HST := hidq (ownB_store hown m)
    rw [HTOP.out n] at HST
    have HB2 := hidq (show Below w.heap.size w (w2.setCell ⟨g, m, none⟩ (.bool true)) from hB2.setCell hgl _)
    clear hown hB2
    go_wp2
    generalize w2.setCell ⟨g, m, none⟩ (.bool true) = W2 at *
    clear c0 f0 hg2
    go_loopw [7] (fun x wr => ∃ c : Nat, c ≤ n ∧ x = .int .i64 ((c : Int) - 1) ∧ wr.ownsRow w.heap.size 4 1 (.slice (some ⟨g, 0, none⟩) n n) n (elBool.cells (M.rowB (M.rkB A m c) n)) ∧ Below w.heap.size w wr) (fun x _ => (intOf x + 1).toNat)
    case atStart => exact ⟨n, by omega, by congr 1; omega, by rw [← Hn.out] at HST ⊢; exact HST.out, HB2.out⟩
    case round =>
      obtain ⟨c, hc, rfl, hown, hb⟩ := hrel
      have HOW := hidq hown
      have HB := hidq hb
      have hgr := hidq (hown.lt _ rfl)
      clear hown hb HST HB2
      by_cases hc0 : c = 0
      · subst hc0
        have hgB := hgr.out.2
        rw [HF0.out] at HOW
        have hB5 := HB.out.size
        go_wp2
        generalize hB5e : wr.heap.size = B5 at *
        obtain ⟨wo, rfl⟩ : ∃ wo : World, wo = wr := ⟨_, rfl⟩
        have HB5e := hidq hB5e
        clear hB5e
        go_loopw [48, 10] (fun x y wr => ∃ k : Nat, k ≤ n ∧ x = .int .i64 k ∧ wr.ownsRow B5 3 1 y (M.outL f k).length (elInt.cells (M.outL f k)) ∧ wr.ownsRow w.heap.size 4 1 (.slice (some ⟨g, 0, none⟩) n n) n (elBool.cells (M.rowB f n)) ∧ Below w.heap.size w wr ∧ B5 ≤ wr.heap.size) (fun x _ _ => n - (intOf x).toNat)
        case atStart => exact ⟨0, by omega, rfl, World.ownsRow_nil _ _ _ _, HOW.out, HB.out, by have := HB5e.out; omega⟩
        case round =>
          obtain ⟨k, hk, rfl, ho5, hw5, hb5, hs5⟩ := hrel
          have HO5 := hidq ho5
          have HW5 := hidq hw5
          have HB5 := hidq hb5
          clear HOW HB ho5 hw5 hb5
          by_cases hlt : k < n
          · have c1 := ownB_cell HW5.out hlt
            have hkn : (k : Int) < n := by omega
            have hol := M.outL_len f k
            cases hfk : f k with
            | true =>
              rw [hfk] at c1
              have HOY := hidq (M.outL_yes f k hfk)
              have hfit : M.fitI (k : Int) := ⟨by omega, by omega⟩
              have HFI := hidq hfit
              clear hfk hfit
              go_wp2_with (first | (at_builtin; refine wpList_append_sl (E := elInt) rfl _ _ rfl B5 _ _ (M.outL f k) rfl (HO5.out.alloc _) _ [(k : Int)] rfl (Is.one _ _ HFI.out) (by simp only [List.length_cons, List.length_nil]; omega) (by simp; omega) ?_; intro v6 w6 hown6 hgrow6))
              have hgr6 : (wr.alloc (.cells #[.int .i64 k] 3)).grownBy w6 u10.ownBlock := hgrow6
              have HM6 := hidq ((HW5.out.alloc (.cells #[.int .i64 k] 3)).kept hgr6 (.inr fun e => by have := (HO5.out.lt g e.symm).1; omega))
              have HB6 := hidq ((below_one (o := .cells #[.int .i64 k] 3) HB5.out).grown hgr6 (by have := HB5.out.size; simp; omega) (fun q hq => by have := (HO5.out.lt q hq).1; omega))
              have hs6 : B5 ≤ w6.heap.size := by have := hgr6.size; simp at this; omega
              have hO6 : w6.ownsRow B5 3 1 v6 (M.outL f (k + 1)).length (elInt.cells (M.outL f (k + 1))) := by
                rw [HOY.out, List.length_append]; exact hown6
              have HO6 := hidq hO6
              clear hown6 hgrow6 hgr6 hO6
              go_roundw
              case rel => exact ⟨k + 1, by omega, by go_num, HO6.out, HM6.out, HB6.out, hs6⟩
              case measure => simp [intOf]; omega
            | false =>
              rw [hfk] at c1
              have HOY := hidq (M.outL_no f k hfk)
              clear hfk
              go_wp2
              go_roundw
              case rel => exact ⟨k + 1, by omega, by go_num, by rw [HOY.out]; exact HO5.out, HW5.out, HB5.out, hs5⟩
              case measure => simp [intOf]; omega
          · obtain rfl : k = n := by omega
            go_wp2
            go_ret2
            exact ⟨_, rfl, own_lowq HO5.out (by have := HB5.out.size; omega), HB5.out⟩
      · obtain ⟨k, rfl⟩ : ∃ k, c = k + 1 := ⟨c - 1, by omega⟩
        rw [show ((k + 1 : Nat) : Int) - 1 = (k : Int) by omega]
        have hlt : k < n := by omega
        have hkn : (k : Int) < n := by omega
        have k0 : (0 : Int) ≤ k := by omega
        have c1 := ownB_cell HOW.out hlt
        have hkN : (k : Int) < N := by omega
        by_cases hR : M.Rk A m (k + 1) k
        · have hRB : M.rkB A m (k + 1) k = true := (M.rkB_iff HA.out (by rw [HN.out]; exact hml) (by have := Hn.out; omega)).2 hR
          rw [hRB] at c1
          have HALL := hidq (M.fq_all HA.out (by rw [HN.out]; exact hml) (by have := Hn.out; omega) hR n)
          obtain ⟨x1, x2, x3⟩ := Ts.cell (UB.out _ HB.out) (k := k) (by rw [HN.out]; have := Hn.out; omega)
          have HP := hidq (M.parts_ahead (HA.out.2 k (by rw [HN.out]; have := Hn.out; omega)).1)
          obtain ⟨t, hs⟩ : ∃ t, M.at_ A k = t := ⟨_, rfl⟩
          rw [hs] at x1 x2 x3 HP HALL
          have HRP := hidq (rparts_any t)
          have hn2 := M.parts_le t
          generalize M.parts t = ps at *
          obtain ⟨np, hnp⟩ : ∃ np, ps.length = np := ⟨_, rfl⟩
          rw [hnp] at HRP HALL hn2
          have HNP := hidq hnp
          clear hs hnp hR hRB
          have HZ := hidq (M.fq_zero (M.rkB A m (k + 1)) ps)
          generalize M.rkB A m (k + 1) = F at *
          go_wp2_with (first | (go_at_call 24; refine (HRP.out _).mono ?_; rintro rr w3 ⟨vp, rfl, hop, hb3⟩; obtain ⟨ao, capp, rfl, hsh⟩ := own_formq hop; have HSH := hidq hsh; have HOP := hidq hop; have HO3 := hidq (own_keptq HOW.out hb3); have HB3 := hidq (below_trans HB.out hb3); clear hsh hop hb3))
          have hgB := hgr.out.2
          generalize wr.heap.size = B3 at *
          go_loopw [38] (fun x wr => ∃ q : Nat, q ≤ np ∧ x = .int .i64 q ∧ wr.ownsRow w.heap.size 4 1 (.slice (some ⟨g, 0, none⟩) n n) n (elBool.cells (M.rowB (M.fq F ps q) n)) ∧ wr.ownsRow B3 3 1 (.slice ao np capp) np (elInt.cells ps) ∧ Below w.heap.size w wr) (fun x _ => np - (intOf x).toNat)
          case atStart => exact ⟨0, by omega, rfl, by rw [HZ.out]; exact HO3.out, HOP.out, HB3.out⟩
          case round =>
            obtain ⟨q, hq, rfl, hown4, hop4, hb4⟩ := hrel
            have HO4 := hidq hown4
            have HP4 := hidq hop4
            have HB4 := hidq hb4
            clear hown4 hop4 hb4 HOP HO3 HB3
            by_cases hql : q < np
            · obtain ⟨h, rfl, hh⟩ := HSH.out (by omega)
              obtain ⟨p, hp⟩ : ∃ p, ps[q]? = some p := ⟨_, List.getElem?_eq_getElem (by rw [HNP.out]; exact hql)⟩
              have hpb := HP.out p (List.mem_of_getElem? hp)
              obtain ⟨p', rfl⟩ : ∃ p' : Nat, p = p' := ⟨p.toNat, by omega⟩
              have c2 := own_cellq HP4.out hql hp
              have c3 := ownB_cell HO4.out (k := p') (by omega)
              have f1 := HO4.out.frozenAt p'
              have HST := hidq (ownB_store HO4.out p')
              rw [M.fq_succ F ps q p' hp] at HST
              have HOT := hidq (own_otherq HP4.out (k := p') hgB (.bool true))
              have hpn : (p' : Int) < n := by omega
              have HBS := hidq (show Below w.heap.size w (wr.setCell ⟨g, p', none⟩ (.bool true)) from HB4.out.setCell hgr.out.1 _)
              clear hp
              go_wp2
              go_roundw
              case rel => exact ⟨q + 1, by omega, by go_num, HST.out, HOT.out, HBS.out⟩
              case measure => simp [intOf]; omega
            · obtain rfl : q = np := by omega
              rw [HALL.out] at HO4
              go_wp2
              go_roundw
              case rel => exact ⟨k, by omega, by go_num, HO4.out, HB4.out⟩
              case measure => simp [intOf]
        · have hRB : M.rkB A m (k + 1) k = false := by
            cases h : M.rkB A m (k + 1) k with
            | false => rfl
            | true => exact absurd ((M.rkB_iff HA.out (by rw [HN.out]; exact hml) (by have := Hn.out; omega)).1 h) hR
          rw [hRB] at c1
          have HSK := hidq (M.rk_skip HA.out (by rw [HN.out]; exact hml) (by have := Hn.out; omega) hR n)
          rw [HSK.out] at HOW
          clear hR hRB HSK
          go_wp2
          go_roundw
          case rel => exact ⟨k, by omega, by go_num, HOW.out, HB.out⟩
          case measure => simp [intOf]
  · have e1 : M.withinL A i = [] := by unfold M.withinL; rw [if_neg ht]
    have e2 : M.deepE A i = 1 := by unfold M.deepE; rw [if_neg ht]
    rw [e1, e2]
    have HT := hidq (show M.thr A i = false by simpa using ht)
    have U0 := hidq u
    clear u ht e1 e2
    go_enter Tryd.func22, Tryd.ntmps22
    go_wp2_with (first | (go_at_call 34; refine (rthere_eq HT.out _ U0.out).mono ?_; rintro r w1 ⟨rfl, hb1⟩; have B1 := hidq hb1; have sz1 := hb1.size; clear hb1))
    go_ret2
    exact ⟨_, rfl, World.ownsRow_nil _ _ _ _, B1.out⟩
end Go.Proofs.YtkggcfkjmmijbaaDoor
