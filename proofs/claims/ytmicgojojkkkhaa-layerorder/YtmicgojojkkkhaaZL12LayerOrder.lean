/-
  The law LayerOrder returns true at every input: subsets in order are as many, each as often, none is ahead of one before it, and the list turned round gives the same. Conditions: the slice holds subsets, the numbers fit their kinds.
-/
import Derived.Test.YtmicgojojkkkhaaZTR
import Derived.Test.YtmicgojojkkkhaaZX6
import Derived.Test.YtmicgojojkkkhaaZXD1
namespace Go.Proofs.Ytmicgojojkkkhaa
open Go.ChangeShapes Go.WideShapes Go.ChangeAt Go.RowKit
def M.eqS (s x : Int × Int) : Int := if decide (x = s) = true then 1 else 0
theorem M.eqS_len (s : Int × Int) : ∀ X : List (Int × Int), 0 ≤ M.Sg (M.eqS s) X ∧ M.Sg (M.eqS s) X ≤ X.length
  | [] => by simp [M.Sg]
  | x :: t => by
    have := M.eqS_len s t
    have h : 0 ≤ M.eqS s x ∧ M.eqS s x ≤ 1 := by unfold M.eqS; split <;> omega
    rw [M.Sg, List.length_cons]; omega
theorem M.ord_at {A : List (Int × Int)} (h : M.Ord A) {i j : Nat} {x y : Int × Int} (hij : i < j) (hi : A[i]? = some x) (hj : A[j]? = some y) : M.ltS y x = false := by
  obtain ⟨h1, rfl⟩ := List.getElem?_eq_some_iff.1 hi
  obtain ⟨h2, rfl⟩ := List.getElem?_eq_some_iff.1 hj
  exact (List.pairwise_iff_getElem.1 h) i j h1 h2 hij
theorem M.rev_at {X : List (Int × Int)} {N k m : Nat} (hN : X.length = N) (h : k + m + 1 = N) : X.reverse[k]? = X[m]? := by
  rw [List.getElem?_reverse (by omega)]
  congr 1
  omega
set_option maxRecDepth 100000 in
theorem row_more0 {W : World} {base k : Nat} {v : Value} {X : List (Int × Int)} {s : Int × Int} (h : W.ownsRow base 27 2 v (k + [s].length) (elSub.cells (X.take k ++ [s]))) (hk : X[k]? = some s) :
    W.ownsRow base 27 2 v (k + 1) (elSub.cells (X.take (k + 1))) := by
  rw [List.take_add_one, hk]; exact h
set_option maxRecDepth 100000 in
theorem ss_of_trod {H : Type} {enc : TypeId × Value → H} {W : World} {v : Value} {d : DataW H} {p : List MemPlace} {base : Nat} (hok : Value.okWide Try.prog W .any base 22 v)
    (h : DataW.Trod enc Try.prog W 0 (fun _ => true) true 22 v d p) (hlt : ∀ x ∈ p, x.block < W.heap.size) : ∃ L, Ss W v L :=
  sl_of_trod (E := elSub) Try.cellsSub (fun n cs y hl hy => by
    obtain ⟨x, e1, e2⟩ := sub_of_cells n cs y hl hy
    exact ⟨x, e1, e2.1.1, e2.1.2, e2.2⟩) hok h hlt
set_option maxRecDepth 100000 in
set_option maxHeartbeats 4000000 in
theorem layerOrder_long (X : List (Int × Int)) (v : Value) (w : World) (hu : Ss w v X) (hl : ¬ X.length ≤ 100) :
    Calls Try.prog 3 #[v] w fun e w' => e = .returned (.bool true) ∧ Below w.heap.size w w' := by
  obtain ⟨ao, cap, rfl, -⟩ := hu.form
  have hB0 := Below.refl w.heap.size w
  have U0 := hu
  have hli : (100 : Int) < X.length := by omega
  clear hl hu
  have T1 := hidq trivial
  go_enter Try.func3, Try.ntmps3
  go_wp2_with (first | (go_at_call 8; clear T1; refine (live12_any _).mono ?_; rintro e w1 ⟨rfl, hb1⟩; have U1 := (U0.below hb1); clear U0; have hB1 := below_trans hB0 hb1))
  go_ret
  exact ⟨rfl, hB1⟩
set_option maxRecDepth 100000 in
set_option maxHeartbeats 8000000 in
theorem layerOrder_main (X : List (Int × Int)) (v : Value) (w : World) (hu : Ss w v X) (hl : X.length ≤ 100) :
    Calls Try.prog 3 #[v] w fun e w' => e = .returned (.bool true) ∧ Below w.heap.size w w' := by
  have LO := hidq (fun W v (u : Ss W v X) => lorder_any X v W u (by omega))
  have LR := hidq (fun W v (u : Ss W v X.reverse) => lorder_any X.reverse v W u (by rw [List.length_reverse]; omega))
  rw [M.srt_of_perm (List.reverse_perm X)] at LR
  have hAl := M.srt_length X
  have HPm := M.srt_perm X
  have HOrd := hidq (fun (i j : Nat) (x y : Int × Int) (h : i < j) (h1 : (M.srt X)[i]? = some x) (h2 : (M.srt X)[j]? = some y) => M.ord_at (M.srt_ord X) h h1 h2)
  obtain ⟨ao, cap, rfl, hc1, -, hp⟩ := hu.form
  have HF := hidq (fun x hx => hu.oks x hx)
  have HFA := hidq (fun x (hx : x ∈ M.srt X) => hu.oks x (M.srt_mem.1 hx))
  have HFR := hidq (fun x (hx : x ∈ X.reverse) => hu.oks x (List.mem_reverse.1 hx))
  generalize M.srt X = A at *
  have hRl : X.reverse.length = X.length := List.length_reverse
  generalize hN : X.length = N at *
  have HRA := hidq (fun k m (h : k + m + 1 = N) => M.rev_at hN h)
  generalize X.reverse = R at *
  have HSE := hidq (fun s => show M.Sg (M.eqS s) (X.take N) = M.Sg (M.eqS s) (A.take N) by rw [List.take_of_length_le (Nat.le_of_eq hN), List.take_of_length_le (Nat.le_of_eq hAl)]; exact (M.Sg_perm HPm).symm)
  have HN := hidq hN
  have HAl := hidq hAl
  have HRl := hidq hRl
  have HP := hidq hp
  have HC := hidq hc1
  have HN8 := hidq hl
  have hB0 := Below.refl w.heap.size w
  have U0 := hu
  have hli : ¬ (100 : Int) < N := by omega
  have T1 := hidq trivial
  have T2 := hidq trivial
  clear hl hu hN hAl HPm hRl hp hc1
  go_enter Try.func3, Try.ntmps3
  go_wp2_with (first | (go_at_call 8; clear T1; refine (live12_any _).mono ?_; rintro e w1 ⟨rfl, hb1⟩; have U1 := (U0.below hb1); clear U0; have hB1 := below_trans hB0 hb1) | (go_at_call 9; clear T2; refine (LO.out _ _ U1).mono ?_; rintro e w2 ⟨x, rfl, A2, hb2⟩; have U2 := hidq (U1.below hb2); clear U1; have hB2 := hidq (below_trans hB1 hb2); have AA := hidq A2; obtain ⟨aA, cA, e2, kA, -, vA⟩ := A2.form; rw [HAl.out] at e2 kA; subst e2; clear A2))
  have HVA := hidq vA
  have HKA := hidq kA
  clear vA kA
  go_loopw [22, 5] (fun i x wr => ∃ k : Nat, k ≤ N ∧ i = .int .i64 k ∧ wr.ownsRow w2.heap.size 27 2 x k (elSub.cells (R.take k)) ∧ Below w2.heap.size w2 wr) (fun i _ _ => N - (intOf i).toNat)
  case atStart => exact ⟨0, by omega, rfl, World.ownsRow_nil _ _ _ _, Below.refl _ _⟩
  case round =>
    obtain ⟨k, hk, rfl, hown, hb⟩ := hrel
    obtain ⟨wz, hwz⟩ : ∃ wz, wz = wr := ⟨_, rfl⟩
    subst hwz
    have BX := hidq hb
    have OX := hidq hown
    have hN8 := HN8.out
    by_cases hkn : k < N
    · have hki : (k : Int) < N := by omega
      obtain ⟨m, hm⟩ : ∃ m, k + m + 1 = N := ⟨N - 1 - k, by omega⟩
      obtain ⟨bF, oF, rfl⟩ := HP.out (by have := HC.out; omega)
      obtain ⟨s, hs⟩ : ∃ s, X[m]? = some s := ⟨_, List.getElem?_eq_getElem (by rw [HN.out]; omega)⟩
      have HRs := hidq ((HRA.out k m hm).trans hs)
      obtain ⟨x1, x2⟩ := Ss.at (U2.out.below hb) hs
      have FS := hidq (HF.out s (List.mem_of_getElem? hs))
      obtain ⟨s1, s2⟩ := s
      dsimp only at x1 x2
      have hw1 : IntKind.i64.wrap ((N : Int) - 1) = (N : Int) - 1 := by rw [IntKind.wrap_i64]; omega
      have hw2 : IntKind.i64.wrap ((N : Int) - 1 - k) = (m : Int) := by rw [IntKind.wrap_i64]; omega
      have hmi : (m : Int) < N := by omega
      have hmn : m < N := by omega
      clear hb hs hown hm
      go_wp2_with (first | (at_builtin; refine wpList_append_sl (E := elSub) rfl _ _ rfl w2.heap.size _ _ _ rfl (own_kept OX.out (below_one (o := (.cells #[.int .u64 s1, .int .u64 s2] 27)) (Below.refl wz.heap.size wz))) _ [(s1, s2)] rfl (Ss.oneq _ _ s1 s2 _ (by first | rfl | simp) FS.out) (by have := HRl.out; simp only [List.length_cons, List.length_nil]; omega) (by have := BX.out.size; simp; omega) ?_; intro v7 w7 hown7 hgrow7; have O7 := hidq hown7; have B7 := hidq ((below_one (o := (.cells #[.int .u64 s1, .int .u64 s2] 27)) BX.out).grown hgrow7 (by have := BX.out.size; simp; omega) (fun q hq => (OX.out.lt q hq).1)); clear hown7 hgrow7))
      go_roundw
      case rel => exact ⟨k + 1, by omega, by go_num, row_more0 O7.out HRs.out, B7.out⟩
      case measure => simp [intOf]; omega
    · obtain rfl : k = N := by omega
      have hki : ¬ (k : Int) < k := by omega
      have SR := hidq (show Ss wz _ R from by have := own_form2 hown fun x hx => HFR.out x (List.mem_of_mem_take hx); rwa [List.take_of_length_le (Nat.le_of_eq HRl.out)] at this)
      clear hb hown
      go_wp2_with (first | (go_at_call 9; refine (LR.out _ _ SR.out).mono ?_; rintro e w3 ⟨x3, rfl, B3, hb3⟩; have BB := hidq B3; have hB3 := hidq hb3; clear hb3; obtain ⟨aB, cB, e3, kB, -, vB⟩ := B3.form; rw [HAl.out] at e3 kB; subst e3; clear B3) | (go_at_call 10; refine (rsameS_yes A _ _ _ ((AA.out.below BX.out).below hB3.out) BB.out).mono ?_; rintro e w4 ⟨rfl, hb4⟩; have hB4 := hidq (below_trans hB3.out hb4); clear hb4))
      clear vB kB
      have U4 := hidq ((U2.out.below BX.out).below hB4.out)
      have A4 := hidq ((AA.out.below BX.out).below hB4.out)
      have HB5 := hidq (below_trans (below_trans hB2.out BX.out) hB4.out)
      clear SR OX BB hB3
      obtain ⟨N, hNN⟩ : ∃ N, N = k := ⟨_, rfl⟩
      subst hNN
      go_loopw [52] (fun a wr => ∃ (q : Nat), q ≤ N ∧ a = .int .i64 q ∧ Below w4.heap.size w4 wr) (fun a _ => N - (intOf a).toNat)
      case atStart => exact ⟨0, by omega, rfl, Below.refl _ _⟩
      case round =>
        obtain ⟨q, hq, rfl, hb⟩ := hrel
        obtain ⟨wy, hwy⟩ : ∃ wy, wy = wr := ⟨_, rfl⟩
        subst hwy
        have BY := hidq hb
        by_cases hqn : q < N
        · have hqi : (q : Int) < N := by omega
          obtain ⟨bA, oA, rfl⟩ := HVA.out (by have := HKA.out; omega)
          obtain ⟨s, hs⟩ : ∃ s, A[q]? = some s := ⟨_, List.getElem?_eq_getElem (by rw [HAl.out]; exact hqn)⟩
          obtain ⟨x1, x2⟩ := Ss.at (A4.out.below hb) hs
          have FS := hidq (HFA.out s (List.mem_of_getElem? hs))
          obtain ⟨s1, s2⟩ := s
          dsimp only at x1 x2
          have HSE := hidq (HSE.out (s1, s2))
          obtain ⟨G, HG, HFc, HOc, HW, ne⟩ := clq_of (wy.alloc (.cells #[.int .u64 s1, .int .u64 s2] 27)) (wy.alloc (.cells #[.int .u64 s1, .int .u64 s2] 27)) (fun X' => Bi X' wy.heap.size 27 s1 s2 ∧ Ss X' (.slice (some ⟨bA, oA, none⟩) N cA) A ∧ Ss X' (.slice ao N cap) X) (fun _ _ h hb => ⟨h.1.below hb, h.2.1.below hb, h.2.2.below hb⟩) ⟨Bi.new wy 27 s1 s2, (A4.out.below hb).alloc _, (U4.out.below hb).alloc _⟩ (Below.refl _ _)
          have h1c := fun c : Clq G => (HFc.out c).1.facts.1
          have h2c := fun c : Clq G => (HFc.out c).1.facts.2
          by_cases hq0 : q = 0
          · subst hq0
            clear hb hs
            rw [show ((0 : Nat) : Int) = 0 from rfl]
            rw [show ((0 : Nat) : Int) = 0 from rfl] at hqi
            have hz1 : ¬ (0 : Int) < 0 := by omega
            have hz2 : (0 : Int) < N := by omega
            simp only [Nat.zero_mul, Nat.add_zero] at x1 x2
            go_wp2
            refine regionq (by kernel_rfl) (by kernel_rfl) HW.out ?_
            repeat (go_big_quiet_step (fail))
            refine wpQuiet_nil ?_
            rintro _ ⟨s9, rfl⟩
            have S9 := hidq (HFc.out s9).1
            have A9 := hidq (HFc.out s9).2.1
            have U9 := hidq (HFc.out s9).2.2
            clear h1c h2c
            have B9 := hidq (below_trans (below_one (o := (.cells #[.int .u64 s1, .int .u64 s2] 27)) (Below.refl wy.heap.size wy)) (HOc.out s9))
            generalize s9.W = W9 at *
            go_wp2
            go_loopw [70, 10, 11] (fun a b c wq => ∃ (p : Nat), p ≤ N ∧ a = .int .i64 p ∧ b = .int .i64 (M.Sg (M.eqS (s1, s2)) (X.take p)) ∧ c = .int .i64 (M.Sg (M.eqS (s1, s2)) (A.take p)) ∧ Below W9.heap.size W9 wq) (fun a _ _ _ => N - (intOf a).toNat)
            case atStart => exact ⟨0, by omega, rfl, rfl, rfl, Below.refl _ _⟩
            case round =>
              obtain ⟨p, hp, rfl, rfl, rfl, hbp⟩ := hrel
              obtain ⟨wq0, hwq⟩ : ∃ wq0, wq0 = wr := ⟨_, rfl⟩
              subst hwq
              have RP := hidq hbp
              have hN8 := HN8.out
              by_cases hpn : p < N
              · have hpi : (p : Int) < N := by omega
                obtain ⟨bF, oF, rfl⟩ := HP.out (by have := HC.out; omega)
                obtain ⟨x, hx⟩ : ∃ x, X[p]? = some x := ⟨_, List.getElem?_eq_getElem (by rw [HN.out]; exact hpn)⟩
                obtain ⟨y, hy⟩ : ∃ y, A[p]? = some y := ⟨_, List.getElem?_eq_getElem (by rw [HAl.out]; exact hpn)⟩
                obtain ⟨x1, x2⟩ := Ss.at (U9.out.below hbp) hx
                obtain ⟨y1, y2⟩ := Ss.at (A9.out.below hbp) hy
                obtain ⟨SQa, SQb⟩ := (S9.out.below hbp).facts
                have p1 := M.Sg_take (f := M.eqS (s1, s2)) hx
                have p2 := M.Sg_take (f := M.eqS (s1, s2)) hy
                have p3 := M.eqS_len (s1, s2) (X.take p)
                have p4 := M.eqS_len (s1, s2) (A.take p)
                rw [List.length_take] at p3 p4
                obtain ⟨xa, xb⟩ := x
                obtain ⟨ya, yb⟩ := y
                dsimp only at x1 x2 y1 y2
                have hqx := eqSub xa xb s1 s2
                have hqy := eqSub ya yb s1 s2
                unfold M.eqS at p1 p2
                generalize decide ((xa, xb) = (s1, s2)) = bx at *
                generalize decide ((ya, yb) = (s1, s2)) = by' at *
                obtain ⟨n0, hn0⟩ : ∃ n0, M.Sg (M.eqS (s1, s2)) (X.take p) = n0 := ⟨_, rfl⟩
                obtain ⟨m0, hm0⟩ : ∃ m0, M.Sg (M.eqS (s1, s2)) (A.take p) = m0 := ⟨_, rfl⟩
                have q1 : M.Sg (M.eqS (s1, s2)) (X.take (p + 1)) = n0 + if bx = true then 1 else 0 := by rw [← hn0]; exact p1
                have q2 : M.Sg (M.eqS (s1, s2)) (A.take (p + 1)) = m0 + if by' = true then 1 else 0 := by rw [← hm0]; exact p2
                rw [hn0] at p3 ⊢
                rw [hm0] at p4 ⊢
                have Q1 := hidq q1
                have Q2 := hidq q2
                have hw5 : IntKind.i64.wrap (n0 + 1) = n0 + 1 := by rw [IntKind.wrap_i64]; omega
                have hw6 : IntKind.i64.wrap (m0 + 1) = m0 + 1 := by rw [IntKind.wrap_i64]; omega
                clear hn0 hm0 p1 p2 q1 q2 hx hy hbp p3 p4
                cases bx <;> cases by'
                all_goals go_wp2
                all_goals go_quiet (fail)
                all_goals go_wp2
                all_goals go_quiet (fail)
                all_goals go_wp2
                all_goals exact ⟨⟨p + 1, by omega, by go_num, by rw [Q1.out]; simp, by rw [Q2.out]; simp, below_dq RP.out _⟩, by simp [intOf]; omega⟩
              · obtain rfl : p = N := by omega
                have hpi : ¬ (p : Int) < p := by omega
                rw [HSE.out]
                generalize M.Sg (M.eqS (s1, s2)) A = n9 at *
                clear hbp
                go_wp2
                first
                  | (go_roundw; (case rel => exact ⟨0 + 1, by omega, by go_num, below_trans (below_trans BY.out B9.out) RP.out⟩); (case measure => simp [intOf]; omega))
                  | exact ⟨⟨0 + 1, by omega, by go_num, below_trans (below_trans BY.out B9.out) RP.out⟩, by simp [intOf]; omega⟩
          · obtain ⟨r, hr⟩ : ∃ r, r + 1 = q := ⟨q - 1, by omega⟩
            obtain ⟨t, ht⟩ : ∃ t, A[r]? = some t := ⟨_, List.getElem?_eq_getElem (by rw [HAl.out]; omega)⟩
            have FT := hidq (HFA.out t (List.mem_of_getElem? ht))
            have h3c := fun c : Clq G => (Ss.at (HFc.out c).2.1 ht).1
            have h4c := fun c : Clq G => (Ss.at (HFc.out c).2.1 ht).2
            have hlt : M.lssB s1 s2 t.1 t.2 = false := HOrd.out _ _ _ _ (show r < q by omega) ht hs
            obtain ⟨t1, t2⟩ := t
            dsimp only at h3c h4c hlt
            have LC := hidq (fun W => less8_any s1 s2 t1 t2 W ⟨FS.out.1, FS.out.2.1⟩ ⟨FS.out.2.2.1, FS.out.2.2.2⟩ ⟨FT.out.1, FT.out.2.1⟩ ⟨FT.out.2.2.1, FT.out.2.2.2⟩)
            rw [hlt] at LC
            have hw1 : IntKind.i64.wrap ((q : Int) - 1) = (r : Int) := by have := HN8.out; rw [IntKind.wrap_i64]; omega
            have hq1 : (0 : Int) < (q : Int) := by omega
            have hq2 : (r : Int) < N := by omega
            have hq3 : r < N := by omega
            have hq4 : 0 < q := by omega
            clear hb hs ht hlt hr hq0
            go_wp2
            refine regionq (by kernel_rfl) (by kernel_rfl) HW.out ?_
            repeat (go_big_quiet_step (first | (go_at_call 11; exact quietq HG.out _ (LC.out _))))
            refine wpQuiet_nil ?_
            rintro _ ⟨s9, rfl⟩
            have S9 := hidq (HFc.out s9).1
            have A9 := hidq (HFc.out s9).2.1
            have U9 := hidq (HFc.out s9).2.2
            clear h1c h2c h3c h4c
            have B9 := hidq (below_trans (below_one (o := (.cells #[.int .u64 s1, .int .u64 s2] 27)) (Below.refl wy.heap.size wy)) (HOc.out s9))
            generalize s9.W = W9 at *
            go_wp2
            go_loopw [70, 10, 11] (fun a b c wq => ∃ (p : Nat), p ≤ N ∧ a = .int .i64 p ∧ b = .int .i64 (M.Sg (M.eqS (s1, s2)) (X.take p)) ∧ c = .int .i64 (M.Sg (M.eqS (s1, s2)) (A.take p)) ∧ Below W9.heap.size W9 wq) (fun a _ _ _ => N - (intOf a).toNat)
            case atStart => exact ⟨0, by omega, rfl, rfl, rfl, Below.refl _ _⟩
            case round =>
              obtain ⟨p, hp, rfl, rfl, rfl, hbp⟩ := hrel
              obtain ⟨wq0, hwq⟩ : ∃ wq0, wq0 = wr := ⟨_, rfl⟩
              subst hwq
              have RP := hidq hbp
              have hN8 := HN8.out
              by_cases hpn : p < N
              · have hpi : (p : Int) < N := by omega
                obtain ⟨bF, oF, rfl⟩ := HP.out (by have := HC.out; omega)
                obtain ⟨x, hx⟩ : ∃ x, X[p]? = some x := ⟨_, List.getElem?_eq_getElem (by rw [HN.out]; exact hpn)⟩
                obtain ⟨y, hy⟩ : ∃ y, A[p]? = some y := ⟨_, List.getElem?_eq_getElem (by rw [HAl.out]; exact hpn)⟩
                obtain ⟨x1, x2⟩ := Ss.at (U9.out.below hbp) hx
                obtain ⟨y1, y2⟩ := Ss.at (A9.out.below hbp) hy
                obtain ⟨SQa, SQb⟩ := (S9.out.below hbp).facts
                have p1 := M.Sg_take (f := M.eqS (s1, s2)) hx
                have p2 := M.Sg_take (f := M.eqS (s1, s2)) hy
                have p3 := M.eqS_len (s1, s2) (X.take p)
                have p4 := M.eqS_len (s1, s2) (A.take p)
                rw [List.length_take] at p3 p4
                obtain ⟨xa, xb⟩ := x
                obtain ⟨ya, yb⟩ := y
                dsimp only at x1 x2 y1 y2
                have hqx := eqSub xa xb s1 s2
                have hqy := eqSub ya yb s1 s2
                unfold M.eqS at p1 p2
                generalize decide ((xa, xb) = (s1, s2)) = bx at *
                generalize decide ((ya, yb) = (s1, s2)) = by' at *
                obtain ⟨n0, hn0⟩ : ∃ n0, M.Sg (M.eqS (s1, s2)) (X.take p) = n0 := ⟨_, rfl⟩
                obtain ⟨m0, hm0⟩ : ∃ m0, M.Sg (M.eqS (s1, s2)) (A.take p) = m0 := ⟨_, rfl⟩
                have q1 : M.Sg (M.eqS (s1, s2)) (X.take (p + 1)) = n0 + if bx = true then 1 else 0 := by rw [← hn0]; exact p1
                have q2 : M.Sg (M.eqS (s1, s2)) (A.take (p + 1)) = m0 + if by' = true then 1 else 0 := by rw [← hm0]; exact p2
                rw [hn0] at p3 ⊢
                rw [hm0] at p4 ⊢
                have Q1 := hidq q1
                have Q2 := hidq q2
                have hw5 : IntKind.i64.wrap (n0 + 1) = n0 + 1 := by rw [IntKind.wrap_i64]; omega
                have hw6 : IntKind.i64.wrap (m0 + 1) = m0 + 1 := by rw [IntKind.wrap_i64]; omega
                clear hn0 hm0 p1 p2 q1 q2 hx hy hbp p3 p4
                cases bx <;> cases by'
                all_goals go_wp2
                all_goals go_quiet (fail)
                all_goals go_wp2
                all_goals go_quiet (fail)
                all_goals go_wp2
                all_goals exact ⟨⟨p + 1, by omega, by go_num, by rw [Q1.out]; simp, by rw [Q2.out]; simp, below_dq RP.out _⟩, by simp [intOf]; omega⟩
              · obtain rfl : p = N := by omega
                have hpi : ¬ (p : Int) < p := by omega
                rw [HSE.out]
                generalize M.Sg (M.eqS (s1, s2)) A = n9 at *
                clear hbp
                go_wp2
                first
                  | (go_roundw; (case rel => exact ⟨q + 1, by omega, by go_num, below_trans (below_trans BY.out B9.out) RP.out⟩); (case measure => simp [intOf]; omega))
                  | exact ⟨⟨q + 1, by omega, by go_num, below_trans (below_trans BY.out B9.out) RP.out⟩, by simp [intOf]; omega⟩
        · obtain rfl : q = N := by omega
          have hqi : ¬ (q : Int) < q := by omega
          clear hb
          go_wp2
          go_ret
          exact ⟨rfl, below_trans HB5.out BY.out⟩
set_option maxRecDepth 100000 in
theorem layerOrder_walk (X : List (Int × Int)) (v : Value) (w : World) (hu : Ss w v X) :
    Calls Try.prog 3 #[v] w fun e w' => e = .returned (.bool true) ∧ Below w.heap.size w w' := by
  by_cases hl : X.length ≤ 100
  · exact layerOrder_main X v w hu hl
  · exact layerOrder_long X v w hu hl
end Go.Proofs.Ytmicgojojkkkhaa
