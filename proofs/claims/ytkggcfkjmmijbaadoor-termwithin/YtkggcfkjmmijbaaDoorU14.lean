/-
  What the program's Deep comes to at every input. Conditions: the slice holds terms.
-/
import Derived.Test.YtkggcfkjmmijbaaDoorU13
namespace Go.Proofs.YtkggcfkjmmijbaaDoor
open Go.RowKit
set_option maxRecDepth 100000 in
set_option maxHeartbeats 4000000 in
theorem deep_any (A : List M.Tm) (i : Int) (v : Value) (w : World) (u : Ts w v A) :
    Calls Tryd.prog 19 #[v, .int .i64 i] w fun e w' => e = .returned (.tuple #[.int .i64 (M.dpV A i), .int .i64 (M.deepE A i)]) ∧ Below w.heap.size w w' := by
  by_cases ht : M.thr A i = true
  · have e1 : M.dpV A i = M.deepV A i.toNat := by unfold M.dpV; rw [if_pos ht]
    have e2 : M.deepE A i = 0 := by unfold M.deepE; rw [if_pos ht]
    have HE := hidq e2
    rw [e1, e2]
    obtain ⟨hA, h0, h1⟩ := M.thr_iff.1 ht
    obtain ⟨m, rfl⟩ : ∃ m : Nat, i = m := ⟨i.toNat, by omega⟩
    rw [Int.toNat_natCast]
    have HA := hidq hA
    obtain ⟨ao, cap, rfl, q1, q2, q4⟩ := u.form
    obtain ⟨b, off, rfl⟩ := q4 (by omega)
    have U0 := hidq u
    have UB := hidq (fun X (hb : Below w.heap.size w X) => u.below hb)
    have hl := hA.1
    clear u ht hA e1 e2 q4
    have hml : m < A.length := by omega
    obtain ⟨r, hr⟩ : ∃ r, M.deepV A m = r := ⟨_, rfl⟩
    have HR := hidq hr
    rw [hr]
    clear hr
    generalize hN : A.length = N at *
    have HN := hidq hN
    clear hN
    obtain ⟨i0, hi, hz0, hz1, hz2⟩ := info_partsq Tryd.infoIntq
    obtain ⟨n, hn⟩ : ∃ n, m + 1 = n := ⟨_, rfl⟩
    have hni : (m : Int) + 1 = n := by omega
    have hnw := wrap64 (x := (n : Int)) (by omega) (by omega)
    have hnc : (n : Int) ≤ cap := by omega
    have hc0 : ¬ cap = 0 := by omega
    have Hn := hidq hn
    clear hn
    go_enter Tryd.func19, Tryd.ntmps19
    go_wp2_with (first | (go_at_call 32; refine (checkPlace_eq HE.out _ U0.out).mono ?_; rintro r w1 ⟨rfl, hb1⟩; have B1 := hidq hb1; have sz1 := hb1.size; clear hb1) | (at_make; refine wpList_make_full _ rfl _ _ 37 rfl w.heap.size 3 i0 (.int .i64 0) 1 Tryd.underlying37 hi hz0 hz1 _ _ _ _ n rfl rfl (by first | rfl | omega) (by first | rfl | omega) ?b2 ?b3 ?b4 ?_))
    case b2 => rw [hz2]; have := Hn.out; omega
    case b3 => unfold maxLen; have := Hn.out; omega
    case b4 => exact sz1
    intro w2 hown hgrow
    rw [elInt_zeros] at hown
    have hB2 : Below w.heap.size w w2 := B1.out.grown hgrow sz1 (fun k hk => by cases hk)
    have hg2 : w1.heap.size < w2.heap.size := (hown.lt _ rfl).2
    generalize w1.heap.size = g at *
    clear hgrow B1
    have HB2 := hidq (below_one (o := .cells #[(.slice (some ⟨g, 0, none⟩) n n)] 37) hB2)
    have HOW := hidq (hown.alloc (.cells #[(.slice (some ⟨g, 0, none⟩) n n)] 37))
    have HXD := hidq (Bx1.new w2 (.slice (some ⟨g, 0, none⟩) n n) 37)
    clear hB2 hown
    obtain ⟨D, hD⟩ : ∃ D, w2.heap.size = D := ⟨_, rfl⟩
    rw [hD] at HXD hg2
    go_wp2
    go_loopw [24] (fun x wr => ∃ k : Nat, k ≤ n ∧ x = .int .i64 k ∧ wr.ownsRow w.heap.size 3 1 (.slice (some ⟨g, 0, none⟩) n n) n (elInt.cells (M.rowO A k n)) ∧ Below w.heap.size w wr ∧ Bx1 wr D (.slice (some ⟨g, 0, none⟩) n n) 37) (fun x _ => n - (intOf x).toNat)
    case atStart => exact ⟨0, by omega, rfl, HOW.out, HB2.out, HXD.out⟩
    case round =>
      obtain ⟨k, hk, rfl, hown, hb, hxd⟩ := hrel
      clear HOW HB2 HXD
      have HOW := hidq hown
      have HB := hidq hb
      have HXD := hidq hxd
      have hgr := hidq (hown.lt _ rfl)
      have cD := hxd.cell
      clear hown hb hxd
      by_cases hlt : k < n
      · obtain ⟨x1, x2, x3⟩ := Ts.cell (UB.out _ HB.out) (k := k) (by rw [HN.out]; have := Hn.out; omega)
        have HP := hidq (M.parts_ahead (HA.out.2 k (by rw [HN.out]; have := Hn.out; omega)).1)
        have HNX := hidq (M.rowO_next (n := n) HP.out)
        obtain ⟨t, hs⟩ : ∃ t, M.at_ A k = t := ⟨_, rfl⟩
        rw [hs] at x1 x2 x3 HNX
        have HS := hidq hs
        clear hs HP
        have hkN : (k : Int) < N := by omega
        have HSt := hidq (M.rowO_start (A := A) hlt)
        rw [HSt.out] at HOW
        have HO2 := hidq ((HOW.out.alloc (.cells #[.int .i64 k] 3)).alloc (.cells #[.int .i64 t.1, .int .i64 t.2.1, .int .i64 t.2.2] 24))
        have HD2 := hidq ((HXD.out.alloc (.cells #[.int .i64 k] 3)).alloc (.cells #[.int .i64 t.1, .int .i64 t.2.1, .int .i64 t.2.2] 24))
        have HK2 := hidq ((Bx1.new wr (.int .i64 k) 3).alloc (.cells #[.int .i64 t.1, .int .i64 t.2.1, .int .i64 t.2.2] 24))
        have HB2 := hidq (below_one (o := .cells #[.int .i64 t.1, .int .i64 t.2.1, .int .i64 t.2.2] 24) (below_one (o := .cells #[.int .i64 k] 3) HB.out))
        go_wp2_with (first | (go_at_call 36; refine (madeOf_deep A HA.out w.heap.size D wr.heap.size g n k _ HD2.out HK2.out (by omega) (by have := hgr.out.2; omega) hlt (by rw [HN.out]; have := Hn.out; omega) HO2.out t HS.out).mono ?_; rintro rr w3 ⟨rfl, ho3, hg3⟩; rw [HNX.out] at ho3; have O3 := hidq ho3; have XD3 := hidq (HD2.out.grown hg3 (by omega)); have B3 := hidq (HB2.out.grown hg3 HB2.out.size (fun q hq => by cases hq; exact hgr.out.1)); clear ho3 hg3))
        go_roundw
        case rel => exact ⟨k + 1, by omega, by go_num, O3.out, B3.out, XD3.out⟩
        case measure => simp [intOf]; omega
      · obtain rfl : k = n := by omega
        have c1 := own_cellq HOW.out (k := m) (by omega) (M.rowO_get (A := A) (by omega))
        rw [HR.out] at c1
        have hmn : (m : Int) < k := by omega
        go_wp2
        go_ret2
        exact ⟨rfl, HB.out⟩
  · have e1 : M.dpV A i = 0 := by unfold M.dpV; rw [if_neg ht]
    have e2 : M.deepE A i = 1 := by unfold M.deepE; rw [if_neg ht]
    have HE := hidq e2
    rw [e1, e2]
    have U0 := hidq u
    clear u ht e1 e2
    go_enter Tryd.func19, Tryd.ntmps19
    go_wp2_with (first | (go_at_call 32; refine (checkPlace_eq HE.out _ U0.out).mono ?_; rintro r w1 ⟨rfl, hb1⟩; have B1 := hidq hb1; have sz1 := hb1.size; clear hb1))
    go_ret2
    exact ⟨rfl, B1.out⟩
theorem deep_eq {A : List M.Tm} {i x n : Int} (h : M.dpV A i = x) (hn : M.deepE A i = n) {v : Value} (w : World) (u : Ts w v A) :
    Calls Tryd.prog 19 #[v, .int .i64 i] w fun e w' => e = .returned (.tuple #[.int .i64 x, .int .i64 n]) ∧ Below w.heap.size w w' := by subst h; subst hn; exact deep_any A i v w u
end Go.Proofs.YtkggcfkjmmijbaaDoor
