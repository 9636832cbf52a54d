/-
  What the closures of the program's Deep come to. Conditions: each theorem's own premises.
-/
import Derived.Test.YtomhccendbnamaaDoorZU2
namespace Go.Proofs.YtomhccendbnamaaDoor
open Go.RowKit
theorem grownq_trans {a b c : World} {row : Option Nat} (h : a.grownBy b row) (k : b.grownBy c row) : a.grownBy c row :=
  ⟨k.os.trans h.os, k.tape.trans h.tape, k.output.trans h.output, Nat.le_trans h.size k.size, fun i hi hr => (k.block i (Nat.lt_of_lt_of_le hi h.size) hr).trans (h.block i hi hr)⟩
theorem grownq_store (w : World) (g k : Nat) (v : Value) : w.grownBy ((w.setCell ⟨g, k, none⟩ v).drew) (some g) :=
  ⟨rfl, rfl, rfl, by simp, fun i hi hr => by
    have : i ≠ g := fun e => hr (by rw [e])
    exact heap_setCell_other w ⟨g, k, none⟩ i v this⟩
/-- a box of one value -/
def Bx1 (W : World) (B : Nat) (v : Value) (t : TypeId) : Prop := W.heap[B]? = some (.cells #[v] t (0, 0))
theorem Bx1.lt {W : World} {B : Nat} {v : Value} {t : TypeId} (h : Bx1 W B v t) : B < W.heap.size := (Array.getElem?_eq_some_iff.1 h).1
theorem Bx1.cell {W : World} {B : Nat} {v : Value} {t : TypeId} (h : Bx1 W B v t) : W.cell? ⟨B, 0, none⟩ = some v := by
  have h' : W.heap[B]? = _ := h
  unfold World.cell?
  rw [h']; rfl
theorem Bx1.new (W : World) (v : Value) (t : TypeId) : Bx1 (W.alloc (.cells #[v] t)) W.heap.size v t := heap_alloc_new W _
theorem Bx1.alloc {W : World} {B : Nat} {v : Value} {t : TypeId} (h : Bx1 W B v t) (o : Obj) : Bx1 (W.alloc o) B v t := (Below.heap_alloc _ _ _ h.lt).trans h
theorem Bx1.below {W W' : World} {B : Nat} {v : Value} {t : TypeId} (h : Bx1 W B v t) (hb : Below W.heap.size W W') : Bx1 W' B v t := (hb.block B h.lt).trans h
theorem Bx1.grown {W W' : World} {B g : Nat} {v : Value} {t : TypeId} (h : Bx1 W B v t) (hg : W.grownBy W' (some g)) (hne : B ≠ g) : Bx1 W' B v t := (hg.block B h.lt (by simpa using hne)).trans h
theorem Bx3.grown {W W' : World} {B g : Nat} {s : M.Tm} (h : Bx3 W B s) (hg : W.grownBy W' (some g)) (hne : B ≠ g) : Bx3 W' B s := (hg.block B h.lt (by simpa using hne)).trans h
theorem grownq_alloc {w w' : World} {o : Obj} {g : Nat} (h : (w.alloc o).grownBy w' (some g)) : w.grownBy w' (some g) := grownq_trans (World.grownBy_alloc w o (some g)) h
end Go.Proofs.YtomhccendbnamaaDoor
namespace Go.Proofs.YtomhccendbnamaaDoor
open Go.RowKit
theorem grownq_set (w : World) (g k : Nat) (v : Value) : w.grownBy (w.setCell ⟨g, k, none⟩ v) (some g) :=
  ⟨rfl, rfl, rfl, by simp, fun i hi hr => by
    have : i ≠ g := fun e => hr (by rw [e])
    exact heap_setCell_other w ⟨g, k, none⟩ i v this⟩
set_option maxRecDepth 100000 in
theorem within1_any (f : Nat → Bool) (base D g n p : Nat) (w : World) (hD : w.cell? ⟨D, 0, none⟩ = some (.slice (some ⟨g, 0, none⟩) n n)) (hp : p < n) (_ : n ≤ 65536) (hown : w.ownsRow base 4 1 (.slice (some ⟨g, 0, none⟩) n n) n (elBool.cells (M.rowB f n))) :
    Calls Tryd.prog 51 #[.int .i64 p, .pointer (some ⟨D, 0, none⟩)] w fun e w' => e = .returned (.tuple #[]) ∧ w'.ownsRow base 4 1 (.slice (some ⟨g, 0, none⟩) n n) n (elBool.cells (M.rowB (fun j => f j || decide (j = p)) n)) ∧ w.grownBy w' (some g) := by
  have c3 := ownB_cell hown (k := p) hp
  have f1 := hown.frozenAt p
  have HST := hidq (ownB_store hown p)
  have hpn : (p : Int) < n := by omega
  clear hown
  go_enter Tryd.func51, Tryd.ntmps51
  go_wp2
  go_end0
  exact ⟨rfl, HST.out, grownq_set w g p _⟩
set_option maxRecDepth 100000 in
set_option maxHeartbeats 4000000 in
theorem madeOf_within (f : Nat → Bool) (base D g n k : Nat) (w : World) (xD : Bx1 w D (.slice (some ⟨g, 0, none⟩) n n) 90) (hDg : D ≠ g) (hk : k < n) (hn : n ≤ 65536)
    (hown : w.ownsRow base 4 1 (.slice (some ⟨g, 0, none⟩) n n) n (elBool.cells (M.rowB f n))) (t : M.Tm) (hm : M.mayB t k = true) :
    Calls Tryd.prog 50 #[.agg #[.int .i64 t.1, .int .i64 t.2.1, .int .i64 t.2.2], (.func (.func 51) #[] #[.pointer (some ⟨D, 0, none⟩)])] w fun e w' => e = .returned (.tuple #[]) ∧ w'.ownsRow base 4 1 (.slice (some ⟨g, 0, none⟩) n n) n (elBool.cells (M.rowB (M.fq f (M.parts t) (M.parts t).length) n)) ∧ w.grownBy w' (some g) := by
  have hgw := (hown.lt g rfl).2
  have hBg : w.heap.size ≠ g := by omega
  have T1 := hidq trivial
  have O0 := hidq (hown.alloc (.cells #[.int .i64 t.1, .int .i64 t.2.1, .int .i64 t.2.2] 43))
  have XD := hidq (xD.alloc (.cells #[.int .i64 t.1, .int .i64 t.2.1, .int .i64 t.2.2] 43))
  have X0 := hidq (Bx3.new w t)
  have cD := XD.out.cell
  clear hown xD
  rcases M.may_kind hm with ⟨k1, k2, k3, k4⟩ | ⟨k1, k2, k3, k4⟩ | ⟨k1, k2, k3, k4, k5⟩
  · have e : M.parts t = [] := by unfold M.parts; simp [k1]
    rw [e, List.length_nil, M.fq_zero]
    clear hm e
    obtain ⟨tk, ta, tb⟩ := t
    dsimp only at *
    subst k1
    subst k4
    go_enter Tryd.func50, Tryd.ntmps50
    go_wp2
    refine bodyPost_ret (v := .tuple #[]) (by simp [results, Tryd.results50, go_sem]) rfl ⟨rfl, O0.out, World.grownBy_alloc _ _ _⟩
  · obtain ⟨a, ha⟩ : ∃ a : Nat, t.2.1 = a := ⟨t.2.1.toNat, by omega⟩
    have e : M.parts t = [(a : Int)] := by
      unfold M.parts
      rcases k1 with k1 | k1 | k1 <;> simp [k1, ha]
    have e2 : M.fq f [(a : Int)] 1 = fun j => f j || decide (j = a) := by
      rw [← M.fq_succ f [(a : Int)] 0 a rfl, M.fq_zero]
    rw [e, List.length_singleton, e2]
    have hak : a < k := by omega
    clear hm e e2
    obtain ⟨tk, ta, tb⟩ := t
    dsimp only at *
    subst ha
    subst k4
    rcases k1 with rfl | rfl | rfl
    all_goals go_enter Tryd.func50, Tryd.ntmps50
    all_goals go_wp2_with (first | (go_at_call 51; clear T1; refine (within1_any f base D g n a _ cD (by omega) hn O0.out).mono ?_; rintro r w1 ⟨rfl, ho1, hg1⟩; have O1 := hidq ho1; have XD1 := hidq (XD.out.grown hg1 hDg); have cD1 := XD1.out.cell; have X1 := hidq (X0.out.grown hg1 hBg); have c1 := X1.out.cells; have G1 := hidq hg1; clear ho1 hg1))
    all_goals go_end0
    all_goals exact ⟨rfl, O1.out, grownq_alloc G1.out⟩
  · obtain ⟨a, ha⟩ : ∃ a : Nat, t.2.1 = a := ⟨t.2.1.toNat, by omega⟩
    obtain ⟨b, hb⟩ : ∃ b : Nat, t.2.2 = b := ⟨t.2.2.toNat, by omega⟩
    have e : M.parts t = [(a : Int), (b : Int)] := by
      unfold M.parts
      simp [k1, ha, hb]
    have e2 : M.fq f [(a : Int), (b : Int)] 2 = fun j => (f j || decide (j = a)) || decide (j = b) := by
      rw [← M.fq_succ f [(a : Int), (b : Int)] 1 b rfl, ← M.fq_succ f [(a : Int), (b : Int)] 0 a rfl, M.fq_zero]
    rw [e, show [(a : Int), (b : Int)].length = 2 from rfl, e2]
    have hak : a < k := by omega
    have hbk : b < k := by omega
    clear hm e e2
    obtain ⟨tk, ta, tb⟩ := t
    dsimp only at *
    subst k1
    subst ha
    subst hb
    go_enter Tryd.func50, Tryd.ntmps50
    go_wp2_with (first | (go_at_call 51; clear T1; refine (within1_any f base D g n a _ cD (by omega) hn O0.out).mono ?_; rintro r w1 ⟨rfl, ho1, hg1⟩; have O1 := hidq ho1; have XD1 := hidq (XD.out.grown hg1 hDg); have cD1 := XD1.out.cell; have X1 := hidq (X0.out.grown hg1 hBg); have c1 := X1.out.cells; have G1 := hidq hg1; clear ho1 hg1) | (go_at_call 51; refine (within1_any _ base D g n b _ cD1 (by omega) hn O1.out).mono ?_; rintro r w2 ⟨rfl, ho2, hg2⟩; have O2 := hidq ho2; have G2 := hidq (grownq_trans G1.out hg2); clear ho2 hg2))
    go_end0
    exact ⟨rfl, O2.out, grownq_alloc G2.out⟩
end Go.Proofs.YtomhccendbnamaaDoor
namespace Go.Proofs.YtomhccendbnamaaDoor
open Go.RowKit
set_option maxRecDepth 100000 in
set_option maxHeartbeats 4000000 in
theorem within_any (A : List M.Tm) (i : Int) (v : Value) (w : World) (u : Ts w v A) :
    Calls Tryd.prog 27 #[v, .int .i64 i] w fun e w' => ∃ v', e = .returned (.tuple #[v', .int .i64 (M.deepE A i)]) ∧ w'.ownsRow w.heap.size 3 1 v' (M.withinL A i).length (elInt.cells (M.withinL A i)) ∧ Below w.heap.size w w' := by
  by_cases ht : M.thr A i = true
  · have e1 : M.withinL A i = M.outL (M.rkB A i.toNat 0) (i.toNat + 1) := by unfold M.withinL; rw [if_pos ht]
    have e2 : M.deepE A i = 0 := by unfold M.deepE; rw [if_pos ht]
    have HE := hidq e2
    rw [e1, e2]
    obtain ⟨hA, h0, h1⟩ := M.thr_iff.1 ht
    obtain ⟨m, rfl⟩ : ∃ m : Nat, i = m := ⟨i.toNat, by omega⟩
    rw [Int.toNat_natCast]
    have HA := hidq hA
    obtain ⟨ao, cap, rfl, q1, q2, q4⟩ := u.form
    obtain ⟨b, off, rfl⟩ := q4 (by omega)
    have U0 := hidq u
    have UB := hidq (fun X (hb : Below w.heap.size w X) => u.below hb)
    have hl := hA.1
    have hml : m < A.length := by omega
    have HTOP := hidq (M.row_top hA hml)
    clear u ht hA e1 e2 q4
    generalize hN : A.length = N at *
    have HN := hidq hN
    clear hN
    obtain ⟨i0, hi, hz0, hz1, hz2⟩ := info_partsq Tryd.infoBoolq
    obtain ⟨n, hn⟩ : ∃ n, m + 1 = n := ⟨_, rfl⟩
    have hni : (m : Int) + 1 = n := by omega
    have hnw := wrap64 (x := (n : Int)) (by omega) (by omega)
    have Hn := hidq hn
    have hmn : m < n := by omega
    have hmni : (m : Int) < n := by omega
    rw [hn] at HTOP ⊢
    clear hn
    obtain ⟨f, hf⟩ : ∃ f, M.rkB A m 0 = f := ⟨_, rfl⟩
    rw [hf]
    have HF0 := hidq hf
    clear hf
    go_enter Tryd.func27, Tryd.ntmps27
    go_wp2_with (first | (go_at_call 32; refine (checkPlace_eq HE.out _ U0.out).mono ?_; rintro r w1 ⟨rfl, hb1⟩; have B1 := hidq hb1; have sz1 := hb1.size; clear hb1) | (at_make; refine wpList_make_full _ rfl _ _ 90 rfl w.heap.size 4 i0 (.bool false) 1 Tryd.underlying90 hi hz0 hz1 _ _ _ _ n rfl rfl (by first | rfl | omega) (by first | rfl | omega) ?b2 ?b3 ?b4 ?_))
    case b2 => rw [hz2]; have := Hn.out; omega
    case b3 => unfold maxLen; have := Hn.out; omega
    case b4 => exact sz1
    intro w2 hown hgrow
    rw [elBool_zeros] at hown
    have hB2 : Below w.heap.size w w2 := B1.out.grown hgrow sz1 (fun k hk => by cases hk)
    have hg2 : w1.heap.size < w2.heap.size := (hown.lt _ rfl).2
    have hgl := sz1
    generalize w1.heap.size = g at *
    clear hgrow B1
    have c0 := ownB_cell hown hmn
    have f0 := hown.frozenAt m
    have hst := ownB_store hown m
    rw [HTOP.out n] at hst
    have HST := hidq (hst.alloc (.cells #[(.slice (some ⟨g, 0, none⟩) n n)] 90))
    have HB2 := hidq (below_one (o := .cells #[(.slice (some ⟨g, 0, none⟩) n n)] 90) (show Below w.heap.size w (w2.setCell ⟨g, m, none⟩ (.bool true)) from hB2.setCell hgl _))
    have HXD := hidq (Bx1.new (w2.setCell ⟨g, m, none⟩ (.bool true)) (.slice (some ⟨g, 0, none⟩) n n) 90)
    obtain ⟨D, hD⟩ : ∃ D, w2.heap.size = D := ⟨_, rfl⟩
    rw [show (w2.setCell ⟨g, m, none⟩ (.bool true)).heap.size = w2.heap.size by simp] at HXD
    rw [hD] at HXD hg2
    clear hown hB2 hst
    go_wp2
    generalize (w2.setCell ⟨g, m, none⟩ (.bool true)).alloc (.cells #[(.slice (some ⟨g, 0, none⟩) n n)] 90) = W2 at *
    clear c0 f0
    go_loopw [8] (fun x wr => ∃ c : Nat, c ≤ n ∧ x = .int .i64 ((c : Int) - 1) ∧ wr.ownsRow w.heap.size 4 1 (.slice (some ⟨g, 0, none⟩) n n) n (elBool.cells (M.rowB (M.rkB A m c) n)) ∧ Below w.heap.size w wr ∧ Bx1 wr D (.slice (some ⟨g, 0, none⟩) n n) 90) (fun x _ => (intOf x + 1).toNat)
    case atStart => exact ⟨n, by omega, by congr 1; omega, by rw [← Hn.out] at HST ⊢; exact HST.out, HB2.out, HXD.out⟩
    case round =>
      obtain ⟨c, hc, rfl, hown, hb, hxd⟩ := hrel
      have HOW := hidq hown
      have HB := hidq hb
      clear HXD
      have HXD := hidq hxd
      have cD := hxd.cell
      clear hxd
      have hgr := hidq (hown.lt _ rfl)
      clear hown hb HST HB2
      by_cases hc0 : c = 0
      · subst hc0
        have hgB := hgr.out.2
        rw [HF0.out] at HOW
        have hB5 := HB.out.size
        go_wp2
        generalize hB5e : wr.heap.size = B5 at *
        obtain ⟨wo, rfl⟩ : ∃ wo : World, wo = wr := ⟨_, rfl⟩
        have HB5e := hidq hB5e
        clear hB5e
        go_loopw [41, 9] (fun x y wr => ∃ k : Nat, k ≤ n ∧ x = .int .i64 k ∧ wr.ownsRow B5 3 1 y (M.outL f k).length (elInt.cells (M.outL f k)) ∧ wr.ownsRow w.heap.size 4 1 (.slice (some ⟨g, 0, none⟩) n n) n (elBool.cells (M.rowB f n)) ∧ Below w.heap.size w wr ∧ B5 ≤ wr.heap.size) (fun x _ _ => n - (intOf x).toNat)
        case atStart => exact ⟨0, by omega, rfl, World.ownsRow_nil _ _ _ _, HOW.out, HB.out, by have := HB5e.out; omega⟩
        case round =>
          obtain ⟨k, hk, rfl, ho5, hw5, hb5, hs5⟩ := hrel
          have HO5 := hidq ho5
          have HW5 := hidq hw5
          have HB5 := hidq hb5
          clear HOW HB ho5 hw5 hb5
          by_cases hlt : k < n
          · have c1 := ownB_cell HW5.out hlt
            have hkn : (k : Int) < n := by omega
            have hol := M.outL_len f k
            cases hfk : f k with
            | true =>
              rw [hfk] at c1
              have HOY := hidq (M.outL_yes f k hfk)
              have hfit : M.fitI (k : Int) := ⟨by omega, by omega⟩
              have HFI := hidq hfit
              clear hfk hfit
              go_wp2_with (first | (at_builtin; refine wpList_append_sl (E := elInt) rfl _ _ rfl B5 _ _ (M.outL f k) rfl (HO5.out.alloc _) _ [(k : Int)] rfl (Is.one _ _ HFI.out) (by simp only [List.length_cons, List.length_nil]; omega) (by simp; omega) ?_; intro v6 w6 hown6 hgrow6))
              have hgr6 : (wr.alloc (.cells #[.int .i64 k] 3)).grownBy w6 u9.ownBlock := hgrow6
              have HM6 := hidq ((HW5.out.alloc (.cells #[.int .i64 k] 3)).kept hgr6 (.inr fun e => by have := (HO5.out.lt g e.symm).1; omega))
              have HB6 := hidq ((below_one (o := .cells #[.int .i64 k] 3) HB5.out).grown hgr6 (by have := HB5.out.size; simp; omega) (fun q hq => by have := (HO5.out.lt q hq).1; omega))
              have hs6 : B5 ≤ w6.heap.size := by have := hgr6.size; simp at this; omega
              have hO6 : w6.ownsRow B5 3 1 v6 (M.outL f (k + 1)).length (elInt.cells (M.outL f (k + 1))) := by
                rw [HOY.out, List.length_append]; exact hown6
              have HO6 := hidq hO6
              clear hown6 hgrow6 hgr6 hO6
              go_roundw
              case rel => exact ⟨k + 1, by omega, by go_num, HO6.out, HM6.out, HB6.out, hs6⟩
              case measure => simp [intOf]; omega
            | false =>
              rw [hfk] at c1
              have HOY := hidq (M.outL_no f k hfk)
              clear hfk
              go_wp2
              go_roundw
              case rel => exact ⟨k + 1, by omega, by go_num, by rw [HOY.out]; exact HO5.out, HW5.out, HB5.out, hs5⟩
              case measure => simp [intOf]; omega
          · obtain rfl : k = n := by omega
            go_wp2
            go_ret2
            exact ⟨_, rfl, own_lowq HO5.out (by have := HB5.out.size; omega), HB5.out⟩
      · obtain ⟨k, rfl⟩ : ∃ k, c = k + 1 := ⟨c - 1, by omega⟩
        rw [show ((k + 1 : Nat) : Int) - 1 = (k : Int) by omega]
        have hlt : k < n := by omega
        have hkn : (k : Int) < n := by omega
        have k0 : (0 : Int) ≤ k := by omega
        have c1 := ownB_cell HOW.out hlt
        have hkN : (k : Int) < N := by omega
        by_cases hR : M.Rk A m (k + 1) k
        · have hRB : M.rkB A m (k + 1) k = true := (M.rkB_iff HA.out (by rw [HN.out]; exact hml) (by have := Hn.out; omega)).2 hR
          rw [hRB] at c1
          have HALL := hidq (M.fq_all HA.out (by rw [HN.out]; exact hml) (by have := Hn.out; omega) hR n)
          obtain ⟨x1, x2, x3⟩ := Ts.cell (UB.out _ HB.out) (k := k) (by rw [HN.out]; have := Hn.out; omega)
          have HP := hidq (M.parts_ahead (HA.out.2 k (by rw [HN.out]; have := Hn.out; omega)).1)
          obtain ⟨t, hs⟩ : ∃ t, M.at_ A k = t := ⟨_, rfl⟩
          rw [hs] at x1 x2 x3 HP HALL
          have HMY := hidq (HA.out.2 k (by rw [HN.out]; have := Hn.out; omega)).1
          rw [hs] at HMY
          clear hs hR hRB HP
          generalize M.rkB A m (k + 1) = F at *
          go_wp2_with (first | (go_at_call 50; refine (madeOf_within F w.heap.size D g n k _ HXD.out (by omega) hlt (by have := Hn.out; omega) HOW.out t HMY.out).mono ?_; rintro rr w3 ⟨rfl, ho3, hg3⟩; rw [HALL.out] at ho3; have O3 := hidq ho3; have XD3 := hidq (HXD.out.grown hg3 (by omega)); have B3 := hidq (HB.out.grown hg3 HB.out.size (fun q hq => by cases hq; exact hgr.out.1)); clear ho3 hg3))
          go_roundw
          case rel => exact ⟨k, by omega, by go_num, O3.out, B3.out, XD3.out⟩
          case measure => simp [intOf]
        · have hRB : M.rkB A m (k + 1) k = false := by
            cases h : M.rkB A m (k + 1) k with
            | false => rfl
            | true => exact absurd ((M.rkB_iff HA.out (by rw [HN.out]; exact hml) (by have := Hn.out; omega)).1 h) hR
          rw [hRB] at c1
          have HSK := hidq (M.rk_skip HA.out (by rw [HN.out]; exact hml) (by have := Hn.out; omega) hR n)
          rw [HSK.out] at HOW
          clear hR hRB HSK
          go_wp2
          go_roundw
          case rel => exact ⟨k, by omega, by go_num, HOW.out, HB.out, HXD.out⟩
          case measure => simp [intOf]
  · have e1 : M.withinL A i = [] := by unfold M.withinL; rw [if_neg ht]
    have e2 : M.deepE A i = 1 := by unfold M.deepE; rw [if_neg ht]
    have HE := hidq e2
    rw [e1, e2]
    have U0 := hidq u
    clear u ht e1 e2
    go_enter Tryd.func27, Tryd.ntmps27
    go_wp2_with (first | (go_at_call 32; refine (checkPlace_eq HE.out _ U0.out).mono ?_; rintro r w1 ⟨rfl, hb1⟩; have B1 := hidq hb1; have sz1 := hb1.size; clear hb1))
    go_ret2
    exact ⟨_, rfl, World.ownsRow_nil _ _ _ _, B1.out⟩
set_option maxRecDepth 100000 in
theorem within_eq {A : List M.Tm} {i n : Int} {L : List Int} (h : M.withinL A i = L) (hn : M.deepE A i = n) {v : Value} (w : World) (u : Ts w v A) :
    Calls Tryd.prog 27 #[v, .int .i64 i] w fun e w' => ∃ v', e = .returned (.tuple #[v', .int .i64 n]) ∧ w'.ownsRow w.heap.size 3 1 v' L.length (elInt.cells L) ∧ Below w.heap.size w w' := by subst h; subst hn; exact within_any A i v w u
end Go.Proofs.YtomhccendbnamaaDoor
