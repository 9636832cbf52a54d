/-
  The law StoreMany returns true at every input: a leaf has as many pairs as are told, each may be of the scheme, no two are the same. Conditions: the numbers fit their kinds.
-/
import Derived.Test.YthmiekinjfaflaaZSQ2
import Derived.Test.YthmiekinjfaflaaZSt2
import Derived.Test.YthmiekinjfaflaaZSt7
import Derived.Test.YthmiekinjfaflaaZXD0
import Derived.Test.YthmiekinjfaflaaZXD30
namespace Go.Proofs.Ythmiekinjfaflaa
open Go.RowKit
set_option maxRecDepth 100000 in
theorem run_makeMapSub0 (w : World) : (Instr.makeMap 33 none).run Try.prog w = .ok (.map (some w.heap.size)) (w.alloc (.map #[] 0)) := by
  simp [Instr.makeMap]
theorem sfind_ones (s : Int × Int) : ∀ X : List (Int × Int), ¬ s ∈ X → sfind s (X.map fun x => (x, 1)) = none
  | [], _ => rfl
  | x :: t, h => by
    rw [List.map_cons, sfind_cons, if_neg (fun e => h (by rw [e]; exact List.mem_cons_self)), sfind_ones s t (fun e => h (List.mem_cons_of_mem _ e))]
    rfl
theorem sfind_last (s : Int × Int) (c : Int) (K : List ((Int × Int) × Int)) (h : sfind s K = none) : sfind s (K ++ [(s, c)]) = some (K.length, c) := by
  rw [sfind_append, h, sfind_cons, if_pos rfl]
  simp
theorem nodup_take {X : List (Int × Int)} (h : X.Nodup) {j : Nat} {s : Int × Int} (hj : X[j]? = some s) : ¬ s ∈ X.take j := by
  intro hm
  obtain ⟨i, hi, he⟩ := List.mem_iff_getElem.1 hm
  rw [List.length_take] at hi
  obtain ⟨hl, he2⟩ := List.getElem?_eq_some_iff.1 hj
  rw [List.getElem_take] at he
  have h1 := List.pairwise_iff_getElem.1 h i j (by omega) hl (by omega)
  exact h1 (by rw [he, he2])
set_option maxRecDepth 100000 in
set_option maxHeartbeats 4000000 in
theorem storeMany_no (h k i : Int) (w : World) (h0 : 0 ≤ i) (h1 : i ≤ 18446744073709551615) (hE : ¬ M.prsE h k i = 0) :
    Calls Try.prog 4 #[.int .i64 h, .int .i64 k, .int .u64 i] w fun e w' => e = .returned (.bool true) ∧ Below w.heap.size w w' := by
  have SP := hidq (fun W => spairs_any h k i W h0 h1)
  rw [(M.prs_no hE).2, (M.prs_no hE).1] at SP
  have HN := hidq (show ([] : List (Int × Int)).length = 0 from rfl)
  clear hE
  go_enter Try.func4, Try.ntmps4
  go_wp2_with (first | (go_at_call 8; refine (live14_any _).mono ?_; rintro e w1 ⟨rfl, hb1⟩; have hB1 := hidq hb1; clear hb1) | (go_at_call 9; refine (SP.out _).mono ?_; rintro e w2 ⟨x, rfl, A2, hb2⟩; have hB2 := hidq (below_trans hB1.out hb2); obtain ⟨aA, cA, e2, kA, kM, vA⟩ := A2.form; have HkA := hidq (Nat.le_trans kA kM); rw [HN.out] at e2 kA; subst e2; have AA2 := hidq A2; have VA := hidq vA; clear A2 hb2 vA kM))
  go_ret
  exact ⟨rfl, hB2.out⟩
set_option maxRecDepth 100000 in
set_option maxHeartbeats 8000000 in
theorem storeMany_1 (h i : Int) (w : World) (h0 : 0 ≤ i) (h1 : i ≤ 18446744073709551615) (hE : M.prsE h 1 i = 0) :
    Calls Try.prog 4 #[.int .i64 h, .int .i64 1, .int .u64 i] w fun e w' => e = .returned (.bool true) ∧ Below w.heap.size w w' := by
  have SP := hidq (fun W => spairs_any h 1 i W h0 h1)
  have SM := hidq (fun W => smany_any h 1 W)
  have LP := hidq (fun W => lpairs_any h W)
  obtain ⟨q1, q2, q3, q4⟩ := M.prs_length h0 hE
  rw [hE] at SP
  rw [q2, ← q1] at SM
  have hht := M.ht_mk q3 q4
  rw [show M.prE h = 0 by unfold M.prE; rw [hht]; rfl] at LP
  have HIn := hidq (fun (x : Int × Int) (hx : x ∈ M.prsL h 1 i) => (M.prs_in h0 hE hx).2.2)
  have HSb := hidq (fun (x : Int × Int) (hx : x ∈ M.prsL h 1 i) => M.sub_fit14 (M.prs_sub h0 hE hx))
  have HNd := hidq (M.prs_nodup (h := h) (k := 1) (i := i) h0)
  have MC1 := hidq (fun y d W a b c e => lmay_any h 1 y d W a b c e)
  have hw1 : IntKind.i64.wrap (h + 1) = ((M.prsL h 1 i).length : Int) := by
    rw [q1, show M.pmV h 1 = h + 1 by unfold M.pmV; rw [hht]; rfl, IntKind.wrap_i64]; omega
  generalize M.prsL h 1 i = C at *
  clear hE q1 q2 q3 q4 hht
  generalize hN : C.length = N at *
  have HN := hidq hN
  clear hN
  have hmk := run_makeMapSub0
  go_enter Try.func4, Try.ntmps4
  go_wp2_with (first | (go_at_call 8; refine (live14_any _).mono ?_; rintro e w1 ⟨rfl, hb1⟩; have hB1 := hidq hb1; clear hb1) | (go_at_call 9; refine (SP.out _).mono ?_; rintro e w2 ⟨x, rfl, A2, hb2⟩; have hB2 := hidq (below_trans hB1.out hb2); obtain ⟨aA, cA, e2, kA, kM, vA⟩ := A2.form; have HkA := hidq (Nat.le_trans kA kM); rw [HN.out] at e2 kA; subst e2; have AA2 := hidq A2; have VA := hidq vA; clear A2 hb2 vA kM) | (go_at_call 11; refine (SM.out _).mono ?_; rintro e w3 ⟨rfl, hb3⟩; have hB3 := hidq (below_trans hB2.out hb3); have AA3 := hidq (AA2.out.below hb3); clear hb3) | (go_at_call 14; refine (LP.out _).mono ?_; rintro e w4 ⟨rfl, hb4⟩; have hB4 := hidq (below_trans hB3.out hb4); have AA4 := hidq (AA3.out.below hb4); clear hb4))
  go_loopw [95] (fun a wr => ∃ (j : Nat), j ≤ N ∧ a = .int .i64 j ∧ MpS wr w4.heap.size ((C.take j).map fun x => (x, 1)) ∧ Below w4.heap.size w4 wr) (fun a _ => N - (intOf a).toNat)
  case atStart => exact ⟨0, by omega, rfl, MpS.new _, below_one (Below.refl _ _)⟩
  case round =>
    obtain ⟨j, hj, rfl, hm, hb⟩ := hrel
    obtain ⟨wz, hwz⟩ : ∃ wz, wz = wr := ⟨_, rfl⟩
    subst hwz
    have BX := hidq hb
    have HM := hidq hm
    clear hm
    have hN8 := HkA.out
    rw [HN.out] at hN8
    unfold maxLen at hN8
    by_cases hjn : j < N
    · have hji : (j : Int) < N := by omega
      obtain ⟨bF, oF, rfl⟩ := VA.out (by omega)
      obtain ⟨s, hsj⟩ : ∃ s, C[j]? = some s := ⟨_, List.getElem?_eq_getElem (by rw [HN.out]; exact hjn)⟩
      obtain ⟨x1, x2⟩ := Ss.at (AA4.out.below hb) hsj
      have hmm := List.mem_of_getElem? hsj
      obtain ⟨b1, b2, b3, b4⟩ := HSb.out s hmm
      obtain ⟨i1, i2⟩ := HIn.out s hmm
      have hnew := sfind_ones s (C.take j) (nodup_take HNd.out hsj)
      have htk : (C.take (j + 1)).map (fun x => (x, (1 : Int))) = (C.take j).map (fun x => (x, 1)) ++ [(s, 1)] := by rw [List.take_add_one, hsj]; simp
      have HTk := hidq htk
      obtain ⟨y, d⟩ := s
      dsimp only at x1 x2 b1 b2 b3 b4 i1 i2
      have hfit : M.fitSu (y, d) := ⟨b1, b2, b3, b4⟩
      have MC := hidq (fun W => MC1.out y d W b1 b2 b3 b4)
      rw [i1, i2] at MC
      generalize (C.take j).map (fun x => (x, (1 : Int))) = K at *
      have HNew := hidq hnew
      have HFit := hidq hfit
      have SX := hidq (Bi.new wz 35 y d)
      obtain ⟨SXa, SXb⟩ := SX.out.facts
      clear hsj hmm b1 b2 b3 b4 i1 i2 hb hnew htk hfit
      go_upto_region 14 with (first | (go_at_call 15; refine (MC.out _).mono ?_; rintro e w5 ⟨rfl, hb5⟩; have Z5 := hidq (SX.out.below hb5); obtain ⟨z5a, z5b⟩ := Z5.out.facts; have M5 := hidq ((HM.out.alloc (.cells #[.int .u64 y, .int .u64 d] 35)).below hb5); have B5 := hidq (below_trans (below_one (o := (.cells #[.int .u64 y, .int .u64 d] 35)) BX.out) hb5); clear hb5))
      have MD : MpS w5.drew w4.heap.size K := M5.out
      have hlook := run_lookSub1 (y, d) HFit.out MD
      rw [HNew.out] at hlook
      obtain ⟨W1, st, he1, hM1, hg1, hs1⟩ := run_entrySub (y, d) HFit.out MD HNew.out
      have hlook1 := run_lookSub1 (y, d) HFit.out hM1
      rw [sfind_last (y, d) 0 K HNew.out] at hlook1
      obtain ⟨W3, he3, hM3, hg3⟩ := hs1 1 W1 rfl
      unfold sbV at hlook he1 hlook1
      dsimp only at hlook he1 hlook1
      have hw11 : IntKind.i64.wrap 1 = 1 := by decide
      have hlook3 := run_lookSub1 (y, d) HFit.out hM3
      rw [sfind_last (y, d) 1 K HNew.out] at hlook3
      unfold sbV at hlook3
      dsimp only at hlook3
      have hBD : Below w4.heap.size w4 w5.drew := B5.out.drew
      have hB1' := hBD.grown hg1 hBD.size (fun q hq => by cases hq; exact Nat.le_refl _)
      have hB3' := hidq (hB1'.grown hg3 hB1'.size (fun q hq => by cases hq; exact Nat.le_refl _))
      have Z3 : Bi W3 wz.heap.size 35 y d := by
        have hne : some wz.heap.size ≠ some w4.heap.size := fun e => by have h1 := Option.some.inj e; have h2 := HM.out.lt; omega
        have e1 := hg1.block wz.heap.size Z5.out.lt hne
        have hl1 : wz.heap.size < W1.heap.size := Nat.lt_of_lt_of_le Z5.out.lt hg1.size
        have e2 := hg3.block wz.heap.size hl1 hne
        exact (e2.trans e1).trans Z5.out
      obtain ⟨z3a, z3b⟩ := Z3.facts
      have HM3 := hidq (show MpS W3 w4.heap.size ((C.take (j + 1)).map fun x => (x, 1)) by rw [HTk.out]; exact hM3)
      clear hM1 hM3 hs1 MD hg1 hg3 hBD hB1' Z3
      go_region
      all_goals
        go_wp2
        go_roundw
        case rel => exact ⟨j + 1, by omega, by go_num, HM3.out, hB3'.out⟩
        case measure => simp [intOf]; omega
    · obtain rfl : j = N := by omega
      have hji : ¬ (j : Int) < j := by omega
      clear hb
      go_wp2
      go_ret
      exact ⟨rfl, below_trans hB4.out BX.out⟩
set_option maxRecDepth 100000 in
set_option maxHeartbeats 8000000 in
theorem storeMany_2 (h i : Int) (w : World) (h0 : 0 ≤ i) (h1 : i ≤ 18446744073709551615) (hE : M.prsE h 2 i = 0) :
    Calls Try.prog 4 #[.int .i64 h, .int .i64 2, .int .u64 i] w fun e w' => e = .returned (.bool true) ∧ Below w.heap.size w w' := by
  have SP := hidq (fun W => spairs_any h 2 i W h0 h1)
  have SM := hidq (fun W => smany_any h 2 W)
  have LP := hidq (fun W => lpairs_any h W)
  obtain ⟨q1, q2, q3, q4⟩ := M.prs_length h0 hE
  rw [hE] at SP
  rw [q2, ← q1] at SM
  have hht := M.ht_mk q3 q4
  rw [show M.prE h = 0 by unfold M.prE; rw [hht]; rfl] at LP
  have HIn := hidq (fun (x : Int × Int) (hx : x ∈ M.prsL h 2 i) => (M.prs_in h0 hE hx).2.2)
  have HSb := hidq (fun (x : Int × Int) (hx : x ∈ M.prsL h 2 i) => M.sub_fit14 (M.prs_sub h0 hE hx))
  have HNd := hidq (M.prs_nodup (h := h) (k := 2) (i := i) h0)
  have MC1 := hidq (fun y d W a b c e => lmay_any h 2 y d W a b c e)
  obtain ⟨H1, hH1⟩ : ∃ x : Int, h + 1 = x := ⟨_, rfl⟩
  obtain ⟨Y, hY⟩ : ∃ x : Int, h * H1 = x := ⟨_, rfl⟩
  obtain ⟨Z, hZ⟩ : ∃ x : Int, Y / 2 = x := ⟨_, rfl⟩
  have hbd : 0 ≤ Y ∧ Y ≤ 1056 := by
    rw [← hY]
    exact ⟨Int.mul_nonneg (by omega) (by omega), Int.le_trans (Int.mul_le_mul q4 (show H1 ≤ 33 by omega) (by omega) (by omega)) (by decide)⟩
  have hw1 : IntKind.i64.wrap (h + 1) = H1 := by rw [IntKind.wrap_i64]; omega
  have hw2 : IntKind.i64.wrap (h * H1) = Y := by rw [hY, IntKind.wrap_i64]; omega
  have hw3 : Y.tdiv 2 = Z := by rw [Int.tdiv_eq_ediv_of_nonneg hbd.1]; exact hZ
  have hw5 : IntKind.i64.wrap Z = Z := by rw [IntKind.wrap_i64]; omega
  have hw4 : IntKind.i64.wrap (Z + 1) = ((M.prsL h 2 i).length : Int) := by
    rw [q1, show M.pmV h 2 = h * (h + 1) / 2 + 1 by unfold M.pmV; rw [hht]; rfl, hH1, hY, hZ, IntKind.wrap_i64]; omega
  clear hH1 hY hZ hbd
  generalize M.prsL h 2 i = C at *
  clear hE q1 q2 q3 q4 hht
  generalize hN : C.length = N at *
  have HN := hidq hN
  clear hN
  have hmk := run_makeMapSub0
  go_enter Try.func4, Try.ntmps4
  go_wp2_with (first | (go_at_call 8; refine (live14_any _).mono ?_; rintro e w1 ⟨rfl, hb1⟩; have hB1 := hidq hb1; clear hb1) | (go_at_call 9; refine (SP.out _).mono ?_; rintro e w2 ⟨x, rfl, A2, hb2⟩; have hB2 := hidq (below_trans hB1.out hb2); obtain ⟨aA, cA, e2, kA, kM, vA⟩ := A2.form; have HkA := hidq (Nat.le_trans kA kM); rw [HN.out] at e2 kA; subst e2; have AA2 := hidq A2; have VA := hidq vA; clear A2 hb2 vA kM) | (go_at_call 11; refine (SM.out _).mono ?_; rintro e w3 ⟨rfl, hb3⟩; have hB3 := hidq (below_trans hB2.out hb3); have AA3 := hidq (AA2.out.below hb3); clear hb3) | (go_at_call 14; refine (LP.out _).mono ?_; rintro e w4 ⟨rfl, hb4⟩; have hB4 := hidq (below_trans hB3.out hb4); have AA4 := hidq (AA3.out.below hb4); clear hb4))
  go_loopw [95] (fun a wr => ∃ (j : Nat), j ≤ N ∧ a = .int .i64 j ∧ MpS wr w4.heap.size ((C.take j).map fun x => (x, 1)) ∧ Below w4.heap.size w4 wr) (fun a _ => N - (intOf a).toNat)
  case atStart => exact ⟨0, by omega, rfl, MpS.new _, below_one (Below.refl _ _)⟩
  case round =>
    obtain ⟨j, hj, rfl, hm, hb⟩ := hrel
    obtain ⟨wz, hwz⟩ : ∃ wz, wz = wr := ⟨_, rfl⟩
    subst hwz
    have BX := hidq hb
    have HM := hidq hm
    clear hm
    have hN8 := HkA.out
    rw [HN.out] at hN8
    unfold maxLen at hN8
    by_cases hjn : j < N
    · have hji : (j : Int) < N := by omega
      obtain ⟨bF, oF, rfl⟩ := VA.out (by omega)
      obtain ⟨s, hsj⟩ : ∃ s, C[j]? = some s := ⟨_, List.getElem?_eq_getElem (by rw [HN.out]; exact hjn)⟩
      obtain ⟨x1, x2⟩ := Ss.at (AA4.out.below hb) hsj
      have hmm := List.mem_of_getElem? hsj
      obtain ⟨b1, b2, b3, b4⟩ := HSb.out s hmm
      obtain ⟨i1, i2⟩ := HIn.out s hmm
      have hnew := sfind_ones s (C.take j) (nodup_take HNd.out hsj)
      have htk : (C.take (j + 1)).map (fun x => (x, (1 : Int))) = (C.take j).map (fun x => (x, 1)) ++ [(s, 1)] := by rw [List.take_add_one, hsj]; simp
      have HTk := hidq htk
      obtain ⟨y, d⟩ := s
      dsimp only at x1 x2 b1 b2 b3 b4 i1 i2
      have hfit : M.fitSu (y, d) := ⟨b1, b2, b3, b4⟩
      have MC := hidq (fun W => MC1.out y d W b1 b2 b3 b4)
      rw [i1, i2] at MC
      generalize (C.take j).map (fun x => (x, (1 : Int))) = K at *
      have HNew := hidq hnew
      have HFit := hidq hfit
      have SX := hidq (Bi.new wz 35 y d)
      obtain ⟨SXa, SXb⟩ := SX.out.facts
      clear hsj hmm b1 b2 b3 b4 i1 i2 hb hnew htk hfit
      go_upto_region 14 with (first | (go_at_call 15; refine (MC.out _).mono ?_; rintro e w5 ⟨rfl, hb5⟩; have Z5 := hidq (SX.out.below hb5); obtain ⟨z5a, z5b⟩ := Z5.out.facts; have M5 := hidq ((HM.out.alloc (.cells #[.int .u64 y, .int .u64 d] 35)).below hb5); have B5 := hidq (below_trans (below_one (o := (.cells #[.int .u64 y, .int .u64 d] 35)) BX.out) hb5); clear hb5))
      have MD : MpS w5.drew w4.heap.size K := M5.out
      have hlook := run_lookSub1 (y, d) HFit.out MD
      rw [HNew.out] at hlook
      obtain ⟨W1, st, he1, hM1, hg1, hs1⟩ := run_entrySub (y, d) HFit.out MD HNew.out
      have hlook1 := run_lookSub1 (y, d) HFit.out hM1
      rw [sfind_last (y, d) 0 K HNew.out] at hlook1
      obtain ⟨W3, he3, hM3, hg3⟩ := hs1 1 W1 rfl
      unfold sbV at hlook he1 hlook1
      dsimp only at hlook he1 hlook1
      have hw11 : IntKind.i64.wrap 1 = 1 := by decide
      have hlook3 := run_lookSub1 (y, d) HFit.out hM3
      rw [sfind_last (y, d) 1 K HNew.out] at hlook3
      unfold sbV at hlook3
      dsimp only at hlook3
      have hBD : Below w4.heap.size w4 w5.drew := B5.out.drew
      have hB1' := hBD.grown hg1 hBD.size (fun q hq => by cases hq; exact Nat.le_refl _)
      have hB3' := hidq (hB1'.grown hg3 hB1'.size (fun q hq => by cases hq; exact Nat.le_refl _))
      have Z3 : Bi W3 wz.heap.size 35 y d := by
        have hne : some wz.heap.size ≠ some w4.heap.size := fun e => by have h1 := Option.some.inj e; have h2 := HM.out.lt; omega
        have e1 := hg1.block wz.heap.size Z5.out.lt hne
        have hl1 : wz.heap.size < W1.heap.size := Nat.lt_of_lt_of_le Z5.out.lt hg1.size
        have e2 := hg3.block wz.heap.size hl1 hne
        exact (e2.trans e1).trans Z5.out
      obtain ⟨z3a, z3b⟩ := Z3.facts
      have HM3 := hidq (show MpS W3 w4.heap.size ((C.take (j + 1)).map fun x => (x, 1)) by rw [HTk.out]; exact hM3)
      clear hM1 hM3 hs1 MD hg1 hg3 hBD hB1' Z3
      go_region
      all_goals
        go_wp2
        go_roundw
        case rel => exact ⟨j + 1, by omega, by go_num, HM3.out, hB3'.out⟩
        case measure => simp [intOf]; omega
    · obtain rfl : j = N := by omega
      have hji : ¬ (j : Int) < j := by omega
      clear hb
      go_wp2
      go_ret
      exact ⟨rfl, below_trans hB4.out BX.out⟩
set_option maxRecDepth 100000 in
set_option maxHeartbeats 8000000 in
theorem storeMany_3 (h i : Int) (w : World) (h0 : 0 ≤ i) (h1 : i ≤ 18446744073709551615) (hE : M.prsE h 3 i = 0) :
    Calls Try.prog 4 #[.int .i64 h, .int .i64 3, .int .u64 i] w fun e w' => e = .returned (.bool true) ∧ Below w.heap.size w w' := by
  have SP := hidq (fun W => spairs_any h 3 i W h0 h1)
  have SM := hidq (fun W => smany_any h 3 W)
  have LP := hidq (fun W => lpairs_any h W)
  obtain ⟨q1, q2, q3, q4⟩ := M.prs_length h0 hE
  rw [hE] at SP
  rw [q2, ← q1] at SM
  have hht := M.ht_mk q3 q4
  rw [show M.prE h = 0 by unfold M.prE; rw [hht]; rfl] at LP
  have HIn := hidq (fun (x : Int × Int) (hx : x ∈ M.prsL h 3 i) => (M.prs_in h0 hE hx).2.2)
  have HSb := hidq (fun (x : Int × Int) (hx : x ∈ M.prsL h 3 i) => M.sub_fit14 (M.prs_sub h0 hE hx))
  have HNd := hidq (M.prs_nodup (h := h) (k := 3) (i := i) h0)
  have MC1 := hidq (fun y d W a b c e => lmay_any h 3 y d W a b c e)
  obtain ⟨P, hP⟩ : ∃ x : Int, M.prV h = x := ⟨_, rfl⟩
  have hPb := M.pr_facts q3 q4
  have hw1 : IntKind.i64.wrap (P + 1) = ((M.prsL h 3 i).length : Int) := by
    have hm : h * (h + 1) ≤ 32 * 33 := Int.mul_le_mul q4 (by omega) (by omega) (by omega)
    rw [q1, show M.pmV h 3 = M.prV h + 1 by unfold M.pmV; rw [hht]; rfl, hP, IntKind.wrap_i64]; rw [hP] at hPb; omega
  rw [hP] at LP
  clear hP hPb
  generalize M.prsL h 3 i = C at *
  clear hE q1 q2 q3 q4 hht
  generalize hN : C.length = N at *
  have HN := hidq hN
  clear hN
  have hmk := run_makeMapSub0
  go_enter Try.func4, Try.ntmps4
  go_wp2_with (first | (go_at_call 8; refine (live14_any _).mono ?_; rintro e w1 ⟨rfl, hb1⟩; have hB1 := hidq hb1; clear hb1) | (go_at_call 9; refine (SP.out _).mono ?_; rintro e w2 ⟨x, rfl, A2, hb2⟩; have hB2 := hidq (below_trans hB1.out hb2); obtain ⟨aA, cA, e2, kA, kM, vA⟩ := A2.form; have HkA := hidq (Nat.le_trans kA kM); rw [HN.out] at e2 kA; subst e2; have AA2 := hidq A2; have VA := hidq vA; clear A2 hb2 vA kM) | (go_at_call 11; refine (SM.out _).mono ?_; rintro e w3 ⟨rfl, hb3⟩; have hB3 := hidq (below_trans hB2.out hb3); have AA3 := hidq (AA2.out.below hb3); clear hb3) | (go_at_call 14; refine (LP.out _).mono ?_; rintro e w4 ⟨rfl, hb4⟩; have hB4 := hidq (below_trans hB3.out hb4); have AA4 := hidq (AA3.out.below hb4); clear hb4))
  go_loopw [95] (fun a wr => ∃ (j : Nat), j ≤ N ∧ a = .int .i64 j ∧ MpS wr w4.heap.size ((C.take j).map fun x => (x, 1)) ∧ Below w4.heap.size w4 wr) (fun a _ => N - (intOf a).toNat)
  case atStart => exact ⟨0, by omega, rfl, MpS.new _, below_one (Below.refl _ _)⟩
  case round =>
    obtain ⟨j, hj, rfl, hm, hb⟩ := hrel
    obtain ⟨wz, hwz⟩ : ∃ wz, wz = wr := ⟨_, rfl⟩
    subst hwz
    have BX := hidq hb
    have HM := hidq hm
    clear hm
    have hN8 := HkA.out
    rw [HN.out] at hN8
    unfold maxLen at hN8
    by_cases hjn : j < N
    · have hji : (j : Int) < N := by omega
      obtain ⟨bF, oF, rfl⟩ := VA.out (by omega)
      obtain ⟨s, hsj⟩ : ∃ s, C[j]? = some s := ⟨_, List.getElem?_eq_getElem (by rw [HN.out]; exact hjn)⟩
      obtain ⟨x1, x2⟩ := Ss.at (AA4.out.below hb) hsj
      have hmm := List.mem_of_getElem? hsj
      obtain ⟨b1, b2, b3, b4⟩ := HSb.out s hmm
      obtain ⟨i1, i2⟩ := HIn.out s hmm
      have hnew := sfind_ones s (C.take j) (nodup_take HNd.out hsj)
      have htk : (C.take (j + 1)).map (fun x => (x, (1 : Int))) = (C.take j).map (fun x => (x, 1)) ++ [(s, 1)] := by rw [List.take_add_one, hsj]; simp
      have HTk := hidq htk
      obtain ⟨y, d⟩ := s
      dsimp only at x1 x2 b1 b2 b3 b4 i1 i2
      have hfit : M.fitSu (y, d) := ⟨b1, b2, b3, b4⟩
      have MC := hidq (fun W => MC1.out y d W b1 b2 b3 b4)
      rw [i1, i2] at MC
      generalize (C.take j).map (fun x => (x, (1 : Int))) = K at *
      have HNew := hidq hnew
      have HFit := hidq hfit
      have SX := hidq (Bi.new wz 35 y d)
      obtain ⟨SXa, SXb⟩ := SX.out.facts
      clear hsj hmm b1 b2 b3 b4 i1 i2 hb hnew htk hfit
      go_upto_region 14 with (first | (go_at_call 15; refine (MC.out _).mono ?_; rintro e w5 ⟨rfl, hb5⟩; have Z5 := hidq (SX.out.below hb5); obtain ⟨z5a, z5b⟩ := Z5.out.facts; have M5 := hidq ((HM.out.alloc (.cells #[.int .u64 y, .int .u64 d] 35)).below hb5); have B5 := hidq (below_trans (below_one (o := (.cells #[.int .u64 y, .int .u64 d] 35)) BX.out) hb5); clear hb5))
      have MD : MpS w5.drew w4.heap.size K := M5.out
      have hlook := run_lookSub1 (y, d) HFit.out MD
      rw [HNew.out] at hlook
      obtain ⟨W1, st, he1, hM1, hg1, hs1⟩ := run_entrySub (y, d) HFit.out MD HNew.out
      have hlook1 := run_lookSub1 (y, d) HFit.out hM1
      rw [sfind_last (y, d) 0 K HNew.out] at hlook1
      obtain ⟨W3, he3, hM3, hg3⟩ := hs1 1 W1 rfl
      unfold sbV at hlook he1 hlook1
      dsimp only at hlook he1 hlook1
      have hw11 : IntKind.i64.wrap 1 = 1 := by decide
      have hlook3 := run_lookSub1 (y, d) HFit.out hM3
      rw [sfind_last (y, d) 1 K HNew.out] at hlook3
      unfold sbV at hlook3
      dsimp only at hlook3
      have hBD : Below w4.heap.size w4 w5.drew := B5.out.drew
      have hB1' := hBD.grown hg1 hBD.size (fun q hq => by cases hq; exact Nat.le_refl _)
      have hB3' := hidq (hB1'.grown hg3 hB1'.size (fun q hq => by cases hq; exact Nat.le_refl _))
      have Z3 : Bi W3 wz.heap.size 35 y d := by
        have hne : some wz.heap.size ≠ some w4.heap.size := fun e => by have h1 := Option.some.inj e; have h2 := HM.out.lt; omega
        have e1 := hg1.block wz.heap.size Z5.out.lt hne
        have hl1 : wz.heap.size < W1.heap.size := Nat.lt_of_lt_of_le Z5.out.lt hg1.size
        have e2 := hg3.block wz.heap.size hl1 hne
        exact (e2.trans e1).trans Z5.out
      obtain ⟨z3a, z3b⟩ := Z3.facts
      have HM3 := hidq (show MpS W3 w4.heap.size ((C.take (j + 1)).map fun x => (x, 1)) by rw [HTk.out]; exact hM3)
      clear hM1 hM3 hs1 MD hg1 hg3 hBD hB1' Z3
      go_region
      all_goals
        go_wp2
        go_roundw
        case rel => exact ⟨j + 1, by omega, by go_num, HM3.out, hB3'.out⟩
        case measure => simp [intOf]; omega
    · obtain rfl : j = N := by omega
      have hji : ¬ (j : Int) < j := by omega
      clear hb
      go_wp2
      go_ret
      exact ⟨rfl, below_trans hB4.out BX.out⟩
set_option maxRecDepth 100000 in
theorem storeMany_walk (h k i : Int) (w : World) (_ : -9223372036854775808 ≤ h) (_ : h ≤ 9223372036854775807) (_ : -9223372036854775808 ≤ k) (_ : k ≤ 9223372036854775807) (h0 : 0 ≤ i) (h1 : i ≤ 18446744073709551615) :
    Calls Try.prog 4 #[.int .i64 h, .int .i64 k, .int .u64 i] w fun e w' => e = .returned (.bool true) ∧ Below w.heap.size w w' := by
  by_cases hE : M.prsE h k i = 0
  · rcases M.kB_of (M.prs_yes hE).1 with rfl | rfl | rfl
    · exact storeMany_1 h i w h0 h1 hE
    · exact storeMany_2 h i w h0 h1 hE
    · exact storeMany_3 h i w h0 h1 hE
  · exact storeMany_no h k i w h0 h1 hE
end Go.Proofs.Ythmiekinjfaflaa
