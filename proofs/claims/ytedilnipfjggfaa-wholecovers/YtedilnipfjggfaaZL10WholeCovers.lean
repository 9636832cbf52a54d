/-
  The law WholeCovers returns true at every input: each leaf that is not in the set is in just one subset of the cover, none of the set is in any; no two touch, there are no more than the bound, and they have as many leaves as the gaps. Conditions: the slice holds numbers, the numbers fit their kinds.
-/
import Derived.Test.YtedilnipfjggfaaZGM
import Derived.Test.YtedilnipfjggfaaZI3
import Derived.Test.YtedilnipfjggfaaZI4
import Derived.Test.YtedilnipfjggfaaZTR
namespace Go.Proofs.Ytedilnipfjggfaa
open Go.RowKit
namespace M
/-- the leaves of each node, as a span -/
def spn (h : Int) (X : List Int) : List (Int × Int) := X.map fun y => (low h y, high h y)
theorem spn_take (h : Int) (X : List Int) (k : Nat) (hk : k < X.length) : spn h (X.take (k + 1)) = spn h (X.take k) ++ [(low h (X[k]?.getD 0), high h (X[k]?.getD 0))] := by
  unfold spn
  rw [take_getD k hk, List.map_append]; rfl
theorem spn_at (h : Int) (X : List Int) (k : Nat) (hk : k < X.length) : (spn h X)[k]? = some (low h (X[k]?.getD 0), high h (X[k]?.getD 0)) := by
  unfold spn; rw [List.getElem?_map, List.getElem?_eq_getElem hk]; rfl
theorem has_both {h i y : Int} {L : List Int} (hs : setB h L = true) (hk : okB h y = true) : shE h y 0 i = findE h L i ∧ shV h y 0 i = inS (lvs h y 0) i := by
  obtain ⟨s1, s2, -⟩ := set_of hs
  by_cases hi : i < p2 h
  · obtain ⟨e1, e2⟩ := has_bare (i := i) hk (leafE_yes s1 s2 hi)
    refine ⟨?_, e2⟩
    rw [e1]
    unfold findE isB
    rw [hs, ht_mk s1 s2, decide_eq_true hi]; rfl
  · obtain ⟨e1, e2⟩ := sh_no (h := h) (I := y) (J := 0) (i := i) (fun hx => by rw [leafE_no s1 s2 hi] at hx; exact absurd hx.2 (by decide))
    rw [e1, e2, inS_out (sub_mk0 hk) (by omega)]
    refine ⟨?_, rfl⟩
    unfold findE isB
    rw [decide_eq_false hi, Bool.and_false, Bool.and_false]; rfl
theorem find_in {h i : Int} {L : List Int} (hf : findE h L i = 0) : i < p2 h := by
  unfold findE at hf
  cases hx : isB h i with
  | false => rw [hx, Bool.and_false] at hf; exact absurd hf (by decide)
  | true => exact (isB_of hx).2.2
/-- how often a leaf is told: once at most, and if it is none, never -/
theorem hit_told {h i : Int} {L : List Int} (hs : setB h L = true) (h0 : 0 ≤ i) : 0 ≤ Sm (hit h i) (thV h L) ∧ Sm (hit h i) (thV h L) ≤ 1 ∧ (findE h L i = 0 → Sm (hit h i) (thV h L) = if i ∈ L then 0 else 1) := by
  by_cases hi : i < p2 h
  · have := (hang_facts hs).2.2.2 i h0 hi
    rw [this]
    refine ⟨by split <;> omega, by split <;> omega, fun _ => rfl⟩
  · have hz : ∀ X : List Int, (∀ y ∈ X, okB h y = true) → Sm (hit h i) X = 0 := by
      intro X
      induction X with
      | nil => intro _; rfl
      | cons x t ih =>
        intro hX
        have h1 := low_bd (hX x (by simp))
        rw [Sm, ih fun y hy => hX y (List.mem_cons_of_mem _ hy)]
        unfold hit
        rw [if_neg (by omega)]; rfl
    have := hz (thV h L) fun y hy => ((hang_mem hs).1 hy).1
    rw [this]
    exact ⟨by decide, by decide, fun hf => absurd (find_in hf) hi⟩
end M
set_option maxRecDepth 100000 in
set_option maxHeartbeats 4000000 in
theorem wholeCovers_long (h : Int) (L : List Int) (v : Value) (i : Int) (w : World) (hu : Us w v L) (hl : ¬ L.length ≤ 30) :
    Calls Try.prog 4 #[.int .i64 h, v, .int .u64 i] w fun e w' => e = .returned (.bool true) ∧ Below w.heap.size w w' := by
  obtain ⟨ao, cap, rfl, -⟩ := us_view hu
  have hB0 := Below.refl w.heap.size w
  have U0 := hu
  have hli : (30 : Int) < L.length := by omega
  clear hl hu
  have T1 := hidq trivial
  go_enter Try.func4, Try.ntmps4
  go_wp2_with (first | (go_at_call 8; clear T1; refine (live10_any _).mono ?_; rintro e w1 ⟨rfl, hb1⟩; have U1 := (U0.below hb1); clear U0; have hB1 := below_trans hB0 hb1))
  go_ret
  exact ⟨rfl, hB1⟩
set_option maxRecDepth 100000 in
set_option maxHeartbeats 4000000 in
theorem wholeCovers_no (h : Int) (L : List Int) (v : Value) (i : Int) (w : World) (hu : Us w v L) (hl : L.length ≤ 30) (hs : ¬ M.setE h L = 0) :
    Calls Try.prog 4 #[.int .i64 h, v, .int .u64 i] w fun e w' => e = .returned (.bool true) ∧ Below w.heap.size w w' := by
  have CA := hidq (fun W v (u : Us W v L) => cover_any h L v W u)
  rw [M.cvL_no hs, M.setE_one hs] at CA
  obtain ⟨ao, cap, rfl, -⟩ := us_view hu
  have hB0 := Below.refl w.heap.size w
  have U0 := hu
  have hli : ¬ (30 : Int) < L.length := by omega
  have T1 := hidq trivial
  have T2 := hidq trivial
  clear hl hu hs
  go_enter Try.func4, Try.ntmps4
  go_wp2_with (first | (go_at_call 8; clear T1; refine (live10_any _).mono ?_; rintro e w1 ⟨rfl, hb1⟩; have U1 := (U0.below hb1); clear U0; have hB1 := below_trans hB0 hb1) | (go_at_call 9; clear T2; refine (CA.out _ _ U1).mono ?_; rintro e w2 ⟨x, rfl, X2, hb2⟩; have U2 := (U1.below hb2); clear U1; have hB2 := below_trans hB1 hb2; obtain ⟨aX2, cX2, rfl, kX2, -, vX2⟩ := X2.form))
  go_ret
  exact ⟨rfl, hB2⟩
set_option maxRecDepth 100000 in
set_option maxHeartbeats 8000000 in
theorem wholeCovers_yes (h : Int) (L : List Int) (v : Value) (i : Int) (w : World) (hu : Us w v L) (h0 : 0 ≤ i) (h1 : i ≤ 18446744073709551615) (hl : L.length ≤ 30) (hs : M.setB h L = true) (hn : L ≠ []) :
    Calls Try.prog 4 #[.int .i64 h, v, .int .u64 i] w fun e w' => e = .returned (.bool true) ∧ Below w.heap.size w w' := by
  obtain ⟨i0, hi0, hz0, hz1, hz2⟩ := info_parts Try.infoSpan
  have CA := hidq (fun W v (u : Us W v L) => cover_any h L v W u)
  have HA := hidq (fun W v (u : Us W v L) => has_any h L v i W u h0 h1)
  obtain ⟨-, b1, b2⟩ := M.bound_facts hs
  have BN := hidq (fun W => bound_any h L.length W (by omega) (by omega))
  rw [b1] at BN
  have hL1 : 0 < L.length := List.length_pos_iff.2 hn
  have hL0 : ¬ (L.length : Int) = 0 := by omega
  have hL2 : ((L.length : Int) == 0) = false := by rw [beq_eq_false_iff_ne]; exact hL0
  obtain ⟨s1, s2, -⟩ := M.set_of hs
  have hp32 := M.p2_32 s2
  have hpp := M.p2_pos h
  obtain ⟨a1, a2, a3, -, -, a6⟩ := M.all_facts hs
  obtain ⟨q1, q2, q3, -⟩ := M.hang_facts hs
  obtain ⟨t1, t2, t3⟩ := M.hit_told (i := i) hs h0
  have HOK := hidq (fun y (hy : y ∈ M.thV h L) => ((M.hang_mem hs).1 hy).1)
  have HAP := hidq (fun a b (ha : a ∈ M.thV h L) (hb : b ∈ M.thV h L) hne => M.cover_apart hs ha hb hne)
  have HBO := hidq (fun y (hy : M.okB h y = true) => M.has_both (i := i) hs hy)
  have HLX := hidq (M.thV_len (h := h) (L := L))
  rw [M.setE_zero.2 hs] at CA
  unfold M.cvL at CA
  generalize M.thV h L = X at *
  have hwid : ∀ x ∈ X, 0 ≤ M.wid h x := fun x hx => by have := M.low_bd (q2 x hx).1; unfold M.wid; omega
  have HSum := hidq (fun k => M.Sm_part hwid k)
  have HW := hidq (fun (k : Nat) (hk : k < X.length) => M.Sm_take (f := M.wid h) hk)
  have HH := hidq (fun (k : Nat) (hk : k < X.length) => M.Sm_take (f := M.hit h i) hk)
  have HH2 := hidq (fun (k : Nat) => show 0 ≤ M.Sm (M.hit h i) (X.take k) ∧ M.Sm (M.hit h i) (X.take k) ≤ 80000 by
    have := M.hit_01 h i (X.take k)
    have := HLX.out
    rw [List.length_take] at *; omega)
  have HHb := hidq (fun y => M.hit_bare (h := h) (i := i) (y := y))
  have HAt := hidq (M.bare_at X)
  have HAl := hidq (M.bare_length X)
  have HSP0 := hidq (fun (k : Nat) (hk : k < X.length) => M.spn_take h X k hk)
  have HSA := hidq (fun (k : Nat) (hk : k < X.length) => M.spn_at h X k hk)
  have HTT := hidq (fun (k q : Nat) (hk : k < X.length) (hq : q < k) => show X[k]?.getD 0 ≠ X[q]?.getD 0 by
    rw [List.getElem?_eq_getElem hk, List.getElem?_eq_getElem (show q < X.length by omega)]
    have := List.pairwise_iff_getElem.1 q1 q k (by omega) hk hq
    show X[k] ≠ X[q]
    omega)
  have HE1 := hidq (show M.Sm (M.wid h) (X.take X.length) = M.p2 h - L.length by rw [List.take_length]; omega)
  have HE2 := hidq (show 0 ≤ M.Sm (M.hit h i) (X.take X.length) ∧ M.Sm (M.hit h i) (X.take X.length) ≤ 1 ∧ (M.findE h L i = 0 → M.Sm (M.hit h i) (X.take X.length) = if i ∈ L then 0 else 1) by rw [List.take_length]; exact ⟨t1, t2, t3⟩)
  obtain ⟨G, hG⟩ : ∃ G, M.gapsL 0 (M.p2 h - 1) L = G := ⟨_, rfl⟩
  rw [hG] at a1 a2 a3 a6
  have HGG := hidq hG
  have HGE := hidq a1
  have HGV := hidq (show M.manyV h G = M.p2 h - L.length by omega)
  have HGF := hidq (show ∀ x ∈ G, 0 ≤ x.1 ∧ x.1 ≤ 18446744073709551615 ∧ 0 ≤ x.2 ∧ x.2 ≤ 18446744073709551615 from fun x hx => by have := a6 x hx; omega)
  have HFH := hidq (fun (hf : M.findE h L i = 0) => show M.hasV h L i = M.has L i by unfold M.hasV; rw [hf]; simp)
  obtain ⟨V, hV⟩ : ∃ V, M.bdV h L.length = V := ⟨_, rfl⟩
  rw [hV] at BN b2
  obtain ⟨ao, cap, rfl, -⟩ := us_view hu
  have hB0 := Below.refl w.heap.size w
  have U0 := hu
  have hli : ¬ (30 : Int) < L.length := by omega
  have T1 := hidq trivial
  have T2 := hidq trivial
  have HS := hidq hs
  clear hu hs hl hn q1 q2 q3 t1 t2 t3 a1 a2 a3 a6 hG hV b1 hwid
  generalize hC : M.bare X = C at *
  clear hC
  have hVn : ¬ V < (C.length : Int) := by have := HAl.out; omega
  have hwl : IntKind.u64.wrap (C.length : Int) = C.length := M.wrapu_id (by omega) (by have := HAl.out; have := HLX.out; omega)
  clear b2
  go_enter Try.func4, Try.ntmps4
  go_wp2_with (first | (go_at_call 8; clear T1; refine (live10_any _).mono ?_; rintro e w1 ⟨rfl, hb1⟩; have U1 := (U0.below hb1); clear U0; have hB1 := below_trans hB0 hb1) | (go_at_call 9; clear T2; refine (CA.out _ _ U1).mono ?_; rintro e w2 ⟨x, rfl, X2, hb2⟩; have U2 := (U1.below hb2); clear U1; have hB2 := below_trans hB1 hb2; obtain ⟨aX2, cX2, rfl, kX2, -, vX2⟩ := X2.form) | (go_at_call 11; refine (BN.out _).mono ?_; rintro e w3 ⟨rfl, hb3⟩; have U3 := (U2.below hb3); have X3 := (X2.below hb3); clear U2 X2; have hB3 := below_trans hB2 hb3) | (go_at_call 14; refine (HA.out _ _ U3).mono ?_; rintro e w5 ⟨rfl, hb5⟩; have U5 := (U3.below hb5); have X5 := (X3.below hb5); clear U3 X3; have hB5 := hidq (below_trans hB3 hb5)))
  generalize hN : C.length = N at *
  have HN := hidq hN
  have hN8 : N ≤ 80000 := by have := HAl.out; have := HLX.out; omega
  clear hN hwl hVn
  obtain ⟨fE, hfE⟩ : ∃ fE, M.findE h L i = fE := ⟨_, rfl⟩
  obtain ⟨hV, hhV⟩ : ∃ hV, M.hasV h L i = hV := ⟨_, rfl⟩
  rw [hfE] at HBO HE2 HFH ⊢
  rw [hhV] at HFH ⊢
  clear hfE hhV
  go_loopw [89, 12, 15] (fun a b c wr => ∃ (j : Nat), j ≤ N ∧ a = .int .i64 j ∧ b = .int .i64 (M.Sm (M.hit h i) (X.take j)) ∧ wr.ownsRow w5.heap.size 43 2 c j (spanC (M.spn h (X.take j))) ∧ Below w5.heap.size w5 wr) (fun a _ _ _ => N - (intOf a).toNat)
  case atStart => exact ⟨0, by omega, rfl, rfl, World.ownsRow_nil _ _ _ _, Below.refl _ _⟩
  case round =>
    obtain ⟨j, hj, rfl, rfl, hown, hb⟩ := hrel
    have BX := hidq hb
    have HO := hidq hown
    by_cases hjn : j < N
    · have hji : (j : Int) < N := by omega
      obtain ⟨bF, oF, rfl⟩ := vX2 (by omega)
      have hcx : ¬ cX2 = 0 := by omega
      have hjl : j < X.length := by rw [← HAl.out]; exact hjn
      obtain ⟨x1, x2⟩ := Ss.at (X5.below hb) (HAt.out j hjl)
      dsimp only at x1 x2
      have hm : X[j]?.getD 0 ∈ X := by rw [List.getElem?_eq_getElem hjl]; exact List.getElem_mem hjl
      have HT := hidq (fun q (hq : q < j) => show 0 ≤ X[q]?.getD 0 ∧ X[q]?.getD 0 ≤ 18446744073709551615 ∧ M.toV h (X[j]?.getD 0) 0 (X[q]?.getD 0) 0 = false ∧ M.toE h (X[j]?.getD 0) 0 (X[q]?.getD 0) 0 = 0 by
        have hmq : X[q]?.getD 0 ∈ X := by rw [List.getElem?_eq_getElem (show q < X.length by omega)]; exact List.getElem_mem _
        have hk := HOK.out _ hmq
        obtain ⟨e1, e2⟩ := HAP.out _ _ hm hmq (HTT.out j q hjl hq)
        have := (M.ok_of hk).2.2.1
        have := M.ok_lt hk
        exact ⟨by omega, by omega, e2, e1⟩)
      have hyk := HOK.out _ hm
      have p1 := HH.out j hjl
      have p2 := HH2.out j
      have HSP := hidq (HSP0.out j hjl)
      generalize X[j]?.getD 0 = y at *
      have p3 := HHb.out y
      have hy1 : y ≤ 18446744073709551615 := by have := M.ok_lt hyk; omega
      have hy0 : 0 ≤ y := by have := (M.ok_of hyk).2.2.1; omega
      obtain ⟨eH, eV⟩ := HBO.out y hyk
      have HSC := hidq (fun W => has8_any h y 0 i W hy0 hy1 (by omega) (by omega) h0 h1)
      rw [eH, eV] at HSC
      have LC := hidq (fun W => leaves8_all h y 0 W hy0 hy1 (by omega) (by omega))
      rw [M.lvA_yes (M.sub_mk0 hyk), M.subE_yes (M.sub_mk0 hyk), M.lvs_bare] at LC
      generalize M.inS (M.lvs h y 0) i = r at *
      obtain ⟨A0, hA0⟩ : ∃ A0, M.Sm (M.hit h i) (X.take j) = A0 := ⟨_, rfl⟩
      obtain ⟨A1, hA1⟩ : ∃ A1, M.Sm (M.hit h i) (X.take (j + 1)) = A1 := ⟨_, rfl⟩
      rw [hA0] at p1 p2 ⊢
      rw [hA1, p3] at p1
      have HA1 := hidq hA1
      have HJL := hidq hjl
      have SX := hidq (Bi.new wr 34 y 0)
      obtain ⟨SXa, SXb⟩ := SX.out.facts
      have RX := hidq (below_one (o := (.cells #[.int .u64 y, .int .u64 0] 34)) (Below.refl wr.heap.size wr))
      have XR := hidq (X5.below hb)
      generalize M.low h y = lo at *
      generalize M.high h y = hi at *
      clear hm hyk p3 hA0 hA1 hb hjl eH eV hown
      cases r with
      | true =>
        have hw4 : IntKind.i64.wrap (A0 + 1) = A0 + 1 := by rw [IntKind.wrap_i64]; omega
        go_wp2_with (first | (go_at_call 15; refine (HSC.out _).mono ?_; rintro e w6 ⟨rfl, hb6⟩; have S6 := hidq (SX.out.below hb6); have R6 := hidq (below_trans RX.out hb6); have X6 := hidq (XR.out.below R6.out); clear hb6))
        go_loopw [111] (fun a wq => ∃ (q : Nat), q ≤ j ∧ a = .int .i64 q ∧ Below w6.heap.size w6 wq) (fun a _ => j - (intOf a).toNat)
        case atStart => exact ⟨0, by omega, rfl, Below.refl _ _⟩
        case round =>
          obtain ⟨q, hq, rfl, hbq⟩ := hrel
          have HBQ := hidq hbq
          have S7 := S6.out.below hbq
          obtain ⟨S7a, S7b⟩ := S7.facts
          by_cases hqj : q < j
          · have hqi : (q : Int) < j := by omega
            obtain ⟨z1, z2⟩ := Ss.at (X6.out.below hbq) (HAt.out q (Nat.lt_trans hqj HJL.out))
            dsimp only at z1 z2
            obtain ⟨g1, g2, g3, g4⟩ := HT.out q hqj
            generalize X[q]?.getD 0 = z at *
            have TC := hidq (fun W => touch_any h y 0 z 0 W ⟨hy0, hy1⟩ (by omega) ⟨g1, g2⟩ (by omega))
            rw [g3, g4] at TC
            have S9 := S7.alloc (.cells #[.int .u64 z, .int .u64 0] 34)
            obtain ⟨S9a, S9b⟩ := S9.facts
            have Z0 := Bi.new wr 34 z 0
            obtain ⟨Z0a, Z0b⟩ := Z0.facts
            clear hbq g3 g4
            go_wp2_with (first | (go_at_call 16; refine (TC.out _).mono ?_; rintro e w7 ⟨rfl, hb7⟩; have B7 := hidq (below_trans (below_one (o := (.cells #[.int .u64 z, .int .u64 0] 34)) HBQ.out) hb7); clear hb7))
            go_roundw
            case rel => exact ⟨q + 1, by omega, by go_num, B7.out⟩
            case measure => simp [intOf]; omega
          · obtain rfl : q = j := by omega
            have hqi : ¬ (q : Int) < q := by omega
            clear hbq
            go_wp2_with (first | (go_at_call 17; refine (LC.out _).mono ?_; rintro e w8 ⟨a8, c8, rfl, p8, hb8⟩; have S8 := (S6.out.below HBQ.out).below hb8; obtain ⟨S8a, S8b⟩ := S8.facts; have R8 := hidq (below_trans (below_trans R6.out HBQ.out) hb8); have P8 := hidq p8; clear hb8 p8) | (at_builtin; refine wpList_append_ps rfl _ _ 37 rfl w5.heap.size 43 i0 Try.underlying37 hi0 hz0 hz1 hz2 _ _ _ rfl (own_kept HO.out R8.out) _ [(lo, hi)] rfl P8.out (by simp only [List.length_cons, List.length_nil]; omega) (by have := BX.out.size; have := R8.out.size; omega) ?_; intro v9 w9 hown9 hgrow9; have O9 := hidq hown9; have B9 := hidq ((below_trans BX.out R8.out).grown hgrow9 (by have := BX.out.size; have := R8.out.size; omega) (fun q hq => (HO.out.lt q hq).1)); clear hown9 hgrow9))
            go_roundw
            case rel => exact ⟨q + 1, by omega, by go_num, by rw [HA1.out, p1]; rfl, by rw [HSP.out]; exact O9.out, B9.out⟩
            case measure => simp [intOf]; omega
      | false =>
        go_wp2_with (first | (go_at_call 15; refine (HSC.out _).mono ?_; rintro e w6 ⟨rfl, hb6⟩; have S6 := hidq (SX.out.below hb6); have R6 := hidq (below_trans RX.out hb6); have X6 := hidq (XR.out.below R6.out); clear hb6))
        go_loopw [111] (fun a wq => ∃ (q : Nat), q ≤ j ∧ a = .int .i64 q ∧ Below w6.heap.size w6 wq) (fun a _ => j - (intOf a).toNat)
        case atStart => exact ⟨0, by omega, rfl, Below.refl _ _⟩
        case round =>
          obtain ⟨q, hq, rfl, hbq⟩ := hrel
          have HBQ := hidq hbq
          have S7 := S6.out.below hbq
          obtain ⟨S7a, S7b⟩ := S7.facts
          by_cases hqj : q < j
          · have hqi : (q : Int) < j := by omega
            obtain ⟨z1, z2⟩ := Ss.at (X6.out.below hbq) (HAt.out q (Nat.lt_trans hqj HJL.out))
            dsimp only at z1 z2
            obtain ⟨g1, g2, g3, g4⟩ := HT.out q hqj
            generalize X[q]?.getD 0 = z at *
            have TC := hidq (fun W => touch_any h y 0 z 0 W ⟨hy0, hy1⟩ (by omega) ⟨g1, g2⟩ (by omega))
            rw [g3, g4] at TC
            have S9 := S7.alloc (.cells #[.int .u64 z, .int .u64 0] 34)
            obtain ⟨S9a, S9b⟩ := S9.facts
            have Z0 := Bi.new wr 34 z 0
            obtain ⟨Z0a, Z0b⟩ := Z0.facts
            clear hbq g3 g4
            go_wp2_with (first | (go_at_call 16; refine (TC.out _).mono ?_; rintro e w7 ⟨rfl, hb7⟩; have B7 := hidq (below_trans (below_one (o := (.cells #[.int .u64 z, .int .u64 0] 34)) HBQ.out) hb7); clear hb7))
            go_roundw
            case rel => exact ⟨q + 1, by omega, by go_num, B7.out⟩
            case measure => simp [intOf]; omega
          · obtain rfl : q = j := by omega
            have hqi : ¬ (q : Int) < q := by omega
            clear hbq
            go_wp2_with (first | (go_at_call 17; refine (LC.out _).mono ?_; rintro e w8 ⟨a8, c8, rfl, p8, hb8⟩; have S8 := (S6.out.below HBQ.out).below hb8; obtain ⟨S8a, S8b⟩ := S8.facts; have R8 := hidq (below_trans (below_trans R6.out HBQ.out) hb8); have P8 := hidq p8; clear hb8 p8) | (at_builtin; refine wpList_append_ps rfl _ _ 37 rfl w5.heap.size 43 i0 Try.underlying37 hi0 hz0 hz1 hz2 _ _ _ rfl (own_kept HO.out R8.out) _ [(lo, hi)] rfl P8.out (by simp only [List.length_cons, List.length_nil]; omega) (by have := BX.out.size; have := R8.out.size; omega) ?_; intro v9 w9 hown9 hgrow9; have O9 := hidq hown9; have B9 := hidq ((below_trans BX.out R8.out).grown hgrow9 (by have := BX.out.size; have := R8.out.size; omega) (fun q hq => (HO.out.lt q hq).1)); clear hown9 hgrow9))
            go_roundw
            case rel => exact ⟨q + 1, by omega, by go_num, by rw [HA1.out, p1]; simp, by rw [HSP.out]; exact O9.out, B9.out⟩
            case measure => simp [intOf]; omega
    · obtain rfl : j = N := by omega
      have hji : ¬ (j : Int) < j := by omega
      have hXt : X.take j = X := List.take_of_length_le (by have := HAl.out; omega)
      rw [hXt] at hown
      have HPS := hidq (show Ps wr _ (M.spn h X) from Ps.of_own hown (fun z hz => by
        obtain ⟨y, hy, rfl⟩ := List.mem_map.1 hz
        have := M.low_bd (HOK.out y hy)
        dsimp only
        omega))
      have hsl : (M.spn h X).length = j := by unfold M.spn; rw [List.length_map]; have := HAl.out; omega
      obtain ⟨aS, cS, rfl, kS, -, vS⟩ := HPS.out.form
      rw [hsl] at HPS kS ⊢
      obtain ⟨c1, c2, c3⟩ := HE2.out
      rw [← HAl.out] at c1 c2 c3
      obtain ⟨Cn, hCn⟩ : ∃ Cn, M.Sm (M.hit h i) (X.take j) = Cn := ⟨_, rfl⟩
      rw [hCn] at c1 c2 c3 ⊢
      have HAN := hidq HAl.out
      clear hb hown hXt hsl hCn
      by_cases hf : fE = 0
      · have hh := HFH.out hf
        have c4 := c3 hf
        by_cases hm : i ∈ L
        · rw [if_pos hm] at c4
          rw [M.has_iff.2 hm] at hh
          subst hh hf c4
          clear c1 c2 c3 hm
          go_wp2
          go_loopw [165, 26] (fun a b wq => ∃ (k : Nat), k ≤ j ∧ a = .int .i64 k ∧ b = .int .u64 (M.Sm (M.wid h) (X.take k)) ∧ Below wr.heap.size wr wq) (fun a _ _ => j - (intOf a).toNat)
          case atStart => exact ⟨0, by omega, rfl, rfl, Below.refl _ _⟩
          case round =>
            obtain ⟨k, hk, rfl, rfl, hbk⟩ := hrel
            have HBK := hidq hbk
            by_cases hkn : k < j
            · have hki : (k : Int) < j := by omega
              obtain ⟨bS, oS, rfl⟩ := vS (by omega)
              have hkl : k < X.length := by have := HAN.out; omega
              obtain ⟨y1, y2⟩ := Ps.at (HPS.out.below hbk) (HSA.out k hkl)
              dsimp only at y1 y2
              have hm : X[k]?.getD 0 ∈ X := by rw [List.getElem?_eq_getElem hkl]; exact List.getElem_mem hkl
              have hyk := HOK.out _ hm
              have e1 := HW.out k hkl
              have e2 := HSum.out (k + 1)
              have e3 := HSum.out k
              have e4 := HE1.out
              rw [List.take_length] at e4
              generalize X[k]?.getD 0 = y at *
              have hlb := M.low_bd hyk
              have hwd : M.wid h y = M.high h y - M.low h y + 1 := rfl
              rw [hwd] at e1
              generalize M.low h y = lo at *
              generalize M.high h y = hi at *
              obtain ⟨A1, hA1⟩ : ∃ A1, M.Sm (M.wid h) (X.take (k + 1)) = A1 := ⟨_, rfl⟩
              obtain ⟨A0, hA0⟩ : ∃ A0, M.Sm (M.wid h) (X.take k) = A0 := ⟨_, rfl⟩
              rw [hA1] at e1 e2
              rw [hA0] at e1 e3 ⊢
              have hw1 : IntKind.u64.wrap (hi - lo) = hi - lo := M.wrapu_id (by omega) (by omega)
              have hw2 : IntKind.u64.wrap (hi - lo + 1) = hi - lo + 1 := M.wrapu_id (by omega) (by omega)
              have hw3 : IntKind.u64.wrap (A0 + (hi - lo + 1)) = A1 := by rw [M.wrapu_id (by omega) (by omega)]; omega
              have HA1 := hidq hA1
              have D0 := Bd.new wr 43 lo hi
              obtain ⟨D0a, D0b⟩ := D0.facts
              clear hbk hm hyk e1 e2 e3 e4 hlb hwd hA1 hA0 hkl
              go_wp2
              go_roundw
              case rel => exact ⟨k + 1, by omega, by go_num, by rw [HA1.out], below_one HBK.out⟩
              case measure => simp [intOf]; omega
            · obtain rfl : k = j := by omega
              have hki : ¬ (k : Int) < k := by omega
              have BW := hidq (below_trans BX.out HBK.out)
              have e1 := HE1.out
              rw [← HAN.out] at e1
              rw [e1]
              clear hbk e1
              go_wp2_with (first | (go_at_call 18; refine (gaps_yes h L _ _ (U5.below BW.out) HS.out).mono ?_; rw [HGG.out]; rintro e w10 ⟨v10, rfl, ho10, hb10⟩; have P10 := Ps.of_own ho10 HGF.out; obtain ⟨a10, c10, rfl, -⟩ := P10.form; have B10 := hidq (below_trans BW.out hb10); clear ho10 hb10) | (go_at_call 19; refine (many_any h G _ _ P10).mono ?_; rw [HGE.out, HGV.out]; rintro e w11 ⟨rfl, hb11⟩; have B11 := hidq (below_trans B10.out hb11); clear hb11))
              go_ret
              exact ⟨rfl, below_trans hB5.out B11.out⟩
        · rw [if_neg hm] at c4
          rw [M.hasnt_iff.2 hm] at hh
          subst hh hf c4
          clear c1 c2 c3 hm
          go_wp2
          go_loopw [165, 26] (fun a b wq => ∃ (k : Nat), k ≤ j ∧ a = .int .i64 k ∧ b = .int .u64 (M.Sm (M.wid h) (X.take k)) ∧ Below wr.heap.size wr wq) (fun a _ _ => j - (intOf a).toNat)
          case atStart => exact ⟨0, by omega, rfl, rfl, Below.refl _ _⟩
          case round =>
            obtain ⟨k, hk, rfl, rfl, hbk⟩ := hrel
            have HBK := hidq hbk
            by_cases hkn : k < j
            · have hki : (k : Int) < j := by omega
              obtain ⟨bS, oS, rfl⟩ := vS (by omega)
              have hkl : k < X.length := by have := HAN.out; omega
              obtain ⟨y1, y2⟩ := Ps.at (HPS.out.below hbk) (HSA.out k hkl)
              dsimp only at y1 y2
              have hm : X[k]?.getD 0 ∈ X := by rw [List.getElem?_eq_getElem hkl]; exact List.getElem_mem hkl
              have hyk := HOK.out _ hm
              have e1 := HW.out k hkl
              have e2 := HSum.out (k + 1)
              have e3 := HSum.out k
              have e4 := HE1.out
              rw [List.take_length] at e4
              generalize X[k]?.getD 0 = y at *
              have hlb := M.low_bd hyk
              have hwd : M.wid h y = M.high h y - M.low h y + 1 := rfl
              rw [hwd] at e1
              generalize M.low h y = lo at *
              generalize M.high h y = hi at *
              obtain ⟨A1, hA1⟩ : ∃ A1, M.Sm (M.wid h) (X.take (k + 1)) = A1 := ⟨_, rfl⟩
              obtain ⟨A0, hA0⟩ : ∃ A0, M.Sm (M.wid h) (X.take k) = A0 := ⟨_, rfl⟩
              rw [hA1] at e1 e2
              rw [hA0] at e1 e3 ⊢
              have hw1 : IntKind.u64.wrap (hi - lo) = hi - lo := M.wrapu_id (by omega) (by omega)
              have hw2 : IntKind.u64.wrap (hi - lo + 1) = hi - lo + 1 := M.wrapu_id (by omega) (by omega)
              have hw3 : IntKind.u64.wrap (A0 + (hi - lo + 1)) = A1 := by rw [M.wrapu_id (by omega) (by omega)]; omega
              have HA1 := hidq hA1
              have D0 := Bd.new wr 43 lo hi
              obtain ⟨D0a, D0b⟩ := D0.facts
              clear hbk hm hyk e1 e2 e3 e4 hlb hwd hA1 hA0 hkl
              go_wp2
              go_roundw
              case rel => exact ⟨k + 1, by omega, by go_num, by rw [HA1.out], below_one HBK.out⟩
              case measure => simp [intOf]; omega
            · obtain rfl : k = j := by omega
              have hki : ¬ (k : Int) < k := by omega
              have BW := hidq (below_trans BX.out HBK.out)
              have e1 := HE1.out
              rw [← HAN.out] at e1
              rw [e1]
              clear hbk e1
              go_wp2_with (first | (go_at_call 18; refine (gaps_yes h L _ _ (U5.below BW.out) HS.out).mono ?_; rw [HGG.out]; rintro e w10 ⟨v10, rfl, ho10, hb10⟩; have P10 := Ps.of_own ho10 HGF.out; obtain ⟨a10, c10, rfl, -⟩ := P10.form; have B10 := hidq (below_trans BW.out hb10); clear ho10 hb10) | (go_at_call 19; refine (many_any h G _ _ P10).mono ?_; rw [HGE.out, HGV.out]; rintro e w11 ⟨rfl, hb11⟩; have B11 := hidq (below_trans B10.out hb11); clear hb11))
              go_ret
              exact ⟨rfl, below_trans hB5.out B11.out⟩
      · have hfb : (fE == 0) = false := by rw [beq_eq_false_iff_ne]; exact hf
        have c5 : ¬ 1 < Cn := by omega
        clear c1 c2 c3
        go_wp2
        go_loopw [165, 26] (fun a b wq => ∃ (k : Nat), k ≤ j ∧ a = .int .i64 k ∧ b = .int .u64 (M.Sm (M.wid h) (X.take k)) ∧ Below wr.heap.size wr wq) (fun a _ _ => j - (intOf a).toNat)
        case atStart => exact ⟨0, by omega, rfl, rfl, Below.refl _ _⟩
        case round =>
          obtain ⟨k, hk, rfl, rfl, hbk⟩ := hrel
          have HBK := hidq hbk
          by_cases hkn : k < j
          · have hki : (k : Int) < j := by omega
            obtain ⟨bS, oS, rfl⟩ := vS (by omega)
            have hkl : k < X.length := by have := HAN.out; omega
            obtain ⟨y1, y2⟩ := Ps.at (HPS.out.below hbk) (HSA.out k hkl)
            dsimp only at y1 y2
            have hm : X[k]?.getD 0 ∈ X := by rw [List.getElem?_eq_getElem hkl]; exact List.getElem_mem hkl
            have hyk := HOK.out _ hm
            have e1 := HW.out k hkl
            have e2 := HSum.out (k + 1)
            have e3 := HSum.out k
            have e4 := HE1.out
            rw [List.take_length] at e4
            generalize X[k]?.getD 0 = y at *
            have hlb := M.low_bd hyk
            have hwd : M.wid h y = M.high h y - M.low h y + 1 := rfl
            rw [hwd] at e1
            generalize M.low h y = lo at *
            generalize M.high h y = hi at *
            obtain ⟨A1, hA1⟩ : ∃ A1, M.Sm (M.wid h) (X.take (k + 1)) = A1 := ⟨_, rfl⟩
            obtain ⟨A0, hA0⟩ : ∃ A0, M.Sm (M.wid h) (X.take k) = A0 := ⟨_, rfl⟩
            rw [hA1] at e1 e2
            rw [hA0] at e1 e3 ⊢
            have hw1 : IntKind.u64.wrap (hi - lo) = hi - lo := M.wrapu_id (by omega) (by omega)
            have hw2 : IntKind.u64.wrap (hi - lo + 1) = hi - lo + 1 := M.wrapu_id (by omega) (by omega)
            have hw3 : IntKind.u64.wrap (A0 + (hi - lo + 1)) = A1 := by rw [M.wrapu_id (by omega) (by omega)]; omega
            have HA1 := hidq hA1
            have D0 := Bd.new wr 43 lo hi
            obtain ⟨D0a, D0b⟩ := D0.facts
            clear hbk hm hyk e1 e2 e3 e4 hlb hwd hA1 hA0 hkl
            go_wp2
            go_roundw
            case rel => exact ⟨k + 1, by omega, by go_num, by rw [HA1.out], below_one HBK.out⟩
            case measure => simp [intOf]; omega
          · obtain rfl : k = j := by omega
            have hki : ¬ (k : Int) < k := by omega
            have BW := hidq (below_trans BX.out HBK.out)
            have e1 := HE1.out
            rw [← HAN.out] at e1
            rw [e1]
            clear hbk e1
            go_wp2_with (first | (go_at_call 18; refine (gaps_yes h L _ _ (U5.below BW.out) HS.out).mono ?_; rw [HGG.out]; rintro e w10 ⟨v10, rfl, ho10, hb10⟩; have P10 := Ps.of_own ho10 HGF.out; obtain ⟨a10, c10, rfl, -⟩ := P10.form; have B10 := hidq (below_trans BW.out hb10); clear ho10 hb10) | (go_at_call 19; refine (many_any h G _ _ P10).mono ?_; rw [HGE.out, HGV.out]; rintro e w11 ⟨rfl, hb11⟩; have B11 := hidq (below_trans B10.out hb11); clear hb11))
            go_ret
            exact ⟨rfl, below_trans hB5.out B11.out⟩
set_option maxRecDepth 100000 in
set_option maxHeartbeats 8000000 in
theorem wholeCovers_nil (h : Int) (L : List Int) (v : Value) (i : Int) (w : World) (hu : Us w v L) (h0 : 0 ≤ i) (h1 : i ≤ 18446744073709551615) (hl : L.length ≤ 30) (hs : M.setB h L = true) (hn : L = []) :
    Calls Try.prog 4 #[.int .i64 h, v, .int .u64 i] w fun e w' => e = .returned (.bool true) ∧ Below w.heap.size w w' := by
  obtain ⟨i0, hi0, hz0, hz1, hz2⟩ := info_parts Try.infoSpan
  have CA := hidq (fun W v (u : Us W v L) => cover_any h L v W u)
  have HA := hidq (fun W v (u : Us W v L) => has_any h L v i W u h0 h1)
  obtain ⟨-, b1, b2⟩ := M.bound_facts hs
  have BN := hidq (fun W => bound_any h L.length W (by omega) (by omega))
  rw [b1] at BN
  have HC1 := hidq (show [((1 : Int), (0 : Int))] = M.cvL h L by unfold M.cvL M.thV; rw [if_pos (M.setE_zero.2 hs), if_pos (show L.length = 0 by rw [hn]; rfl)]; rfl)
  unfold M.cvL at HC1
  have hL0 : (L.length : Int) = 0 := by rw [hn]; rfl
  obtain ⟨s1, s2, -⟩ := M.set_of hs
  have hp32 := M.p2_32 s2
  have hpp := M.p2_pos h
  obtain ⟨a1, a2, a3, -, -, a6⟩ := M.all_facts hs
  obtain ⟨q1, q2, q3, -⟩ := M.hang_facts hs
  obtain ⟨t1, t2, t3⟩ := M.hit_told (i := i) hs h0
  have HOK := hidq (fun y (hy : y ∈ M.thV h L) => ((M.hang_mem hs).1 hy).1)
  have HAP := hidq (fun a b (ha : a ∈ M.thV h L) (hb : b ∈ M.thV h L) hne => M.cover_apart hs ha hb hne)
  have HBO := hidq (fun y (hy : M.okB h y = true) => M.has_both (i := i) hs hy)
  have HLX := hidq (M.thV_len (h := h) (L := L))
  rw [M.setE_zero.2 hs] at CA
  unfold M.cvL at CA
  generalize M.thV h L = X at *
  have hwid : ∀ x ∈ X, 0 ≤ M.wid h x := fun x hx => by have := M.low_bd (q2 x hx).1; unfold M.wid; omega
  have HSum := hidq (fun k => M.Sm_part hwid k)
  have HW := hidq (fun (k : Nat) (hk : k < X.length) => M.Sm_take (f := M.wid h) hk)
  have HH := hidq (fun (k : Nat) (hk : k < X.length) => M.Sm_take (f := M.hit h i) hk)
  have HH2 := hidq (fun (k : Nat) => show 0 ≤ M.Sm (M.hit h i) (X.take k) ∧ M.Sm (M.hit h i) (X.take k) ≤ 80000 by
    have := M.hit_01 h i (X.take k)
    have := HLX.out
    rw [List.length_take] at *; omega)
  have HHb := hidq (fun y => M.hit_bare (h := h) (i := i) (y := y))
  have HAt := hidq (M.bare_at X)
  have HAl := hidq (M.bare_length X)
  have HSP0 := hidq (fun (k : Nat) (hk : k < X.length) => M.spn_take h X k hk)
  have HSA := hidq (fun (k : Nat) (hk : k < X.length) => M.spn_at h X k hk)
  have HTT := hidq (fun (k q : Nat) (hk : k < X.length) (hq : q < k) => show X[k]?.getD 0 ≠ X[q]?.getD 0 by
    rw [List.getElem?_eq_getElem hk, List.getElem?_eq_getElem (show q < X.length by omega)]
    have := List.pairwise_iff_getElem.1 q1 q k (by omega) hk hq
    show X[k] ≠ X[q]
    omega)
  have HE1 := hidq (show M.Sm (M.wid h) (X.take X.length) = M.p2 h - L.length by rw [List.take_length]; omega)
  have HE2 := hidq (show 0 ≤ M.Sm (M.hit h i) (X.take X.length) ∧ M.Sm (M.hit h i) (X.take X.length) ≤ 1 ∧ (M.findE h L i = 0 → M.Sm (M.hit h i) (X.take X.length) = if i ∈ L then 0 else 1) by rw [List.take_length]; exact ⟨t1, t2, t3⟩)
  obtain ⟨G, hG⟩ : ∃ G, M.gapsL 0 (M.p2 h - 1) L = G := ⟨_, rfl⟩
  rw [hG] at a1 a2 a3 a6
  have HGG := hidq hG
  have HGE := hidq a1
  have HGV := hidq (show M.manyV h G = M.p2 h - L.length by omega)
  have HGF := hidq (show ∀ x ∈ G, 0 ≤ x.1 ∧ x.1 ≤ 18446744073709551615 ∧ 0 ≤ x.2 ∧ x.2 ≤ 18446744073709551615 from fun x hx => by have := a6 x hx; omega)
  have HFH := hidq (fun (hf : M.findE h L i = 0) => show M.hasV h L i = M.has L i by unfold M.hasV; rw [hf]; simp)
  obtain ⟨V, hV⟩ : ∃ V, M.bdV h L.length = V := ⟨_, rfl⟩
  rw [hV] at BN b2
  rw [hL0] at BN
  obtain ⟨ao, cap, rfl, -⟩ := us_view hu
  have hB0 := Below.refl w.heap.size w
  have U0 := hu
  have hli : ¬ (30 : Int) < L.length := by omega
  have T1 := hidq trivial
  have T2 := hidq trivial
  have HS := hidq hs
  clear hu hs hl hn q1 q2 q3 t1 t2 t3 a1 a2 a3 a6 hG hV b1 hwid
  generalize hC : M.bare X = C at *
  clear hC
  have hVn : ¬ V < (C.length : Int) := by have := HAl.out; omega
  have hwl : IntKind.u64.wrap (C.length : Int) = C.length := M.wrapu_id (by omega) (by have := HAl.out; have := HLX.out; omega)
  clear b2
  go_enter Try.func4, Try.ntmps4
  go_wp2_with (first | (go_at_call 8; clear T1; refine (live10_any _).mono ?_; rintro e w1 ⟨rfl, hb1⟩; have U1 := (U0.below hb1); clear U0; have hB1 := below_trans hB0 hb1) | (go_at_call 9; clear T2; refine (CA.out _ _ U1).mono ?_; rintro e w2 ⟨x, rfl, X2, hb2⟩; have U2 := (U1.below hb2); clear U1; have hB2 := below_trans hB1 hb2; obtain ⟨aX2, cX2, rfl, kX2, -, vX2⟩ := X2.form) | (go_at_call 11; refine (BN.out _).mono ?_; rintro e w3 ⟨rfl, hb3⟩; have U3 := (U2.below hb3); have X3 := (X2.below hb3); clear U2 X2; have hB3 := below_trans hB2 hb3) | (go_at_call 13; refine (rsameS_yes C _ _ _ (X3.alloc _) (by rw [← HC1.out]; exact Ss.oneq _ _ 1 0 _ (by first | rfl | simp) (by omega))).mono ?_; rintro e w4 ⟨rfl, hb4⟩; have U4 := (U3.alloc (.cells #[.int .u64 1, .int .u64 0] 34)).below hb4; have X4 := (X3.alloc (.cells #[.int .u64 1, .int .u64 0] 34)).below hb4; clear U3 X3; have hB4 := below_trans (below_one (o := .cells #[.int .u64 1, .int .u64 0] 34) hB3) hb4) | (go_at_call 14; refine (HA.out _ _ U4).mono ?_; rintro e w5 ⟨rfl, hb5⟩; have U5 := (U4.below hb5); have X5 := (X4.below hb5); clear U4 X4; have hB5 := hidq (below_trans hB4 hb5)))
  generalize hN : C.length = N at *
  have HN := hidq hN
  have hN8 : N ≤ 80000 := by have := HAl.out; have := HLX.out; omega
  clear hN hwl hVn
  obtain ⟨fE, hfE⟩ : ∃ fE, M.findE h L i = fE := ⟨_, rfl⟩
  obtain ⟨hV, hhV⟩ : ∃ hV, M.hasV h L i = hV := ⟨_, rfl⟩
  rw [hfE] at HBO HE2 HFH ⊢
  rw [hhV] at HFH ⊢
  clear hfE hhV
  go_loopw [89, 12, 15] (fun a b c wr => ∃ (j : Nat), j ≤ N ∧ a = .int .i64 j ∧ b = .int .i64 (M.Sm (M.hit h i) (X.take j)) ∧ wr.ownsRow w5.heap.size 43 2 c j (spanC (M.spn h (X.take j))) ∧ Below w5.heap.size w5 wr) (fun a _ _ _ => N - (intOf a).toNat)
  case atStart => exact ⟨0, by omega, rfl, rfl, World.ownsRow_nil _ _ _ _, Below.refl _ _⟩
  case round =>
    obtain ⟨j, hj, rfl, rfl, hown, hb⟩ := hrel
    have BX := hidq hb
    have HO := hidq hown
    by_cases hjn : j < N
    · have hji : (j : Int) < N := by omega
      obtain ⟨bF, oF, rfl⟩ := vX2 (by omega)
      have hcx : ¬ cX2 = 0 := by omega
      have hjl : j < X.length := by rw [← HAl.out]; exact hjn
      obtain ⟨x1, x2⟩ := Ss.at (X5.below hb) (HAt.out j hjl)
      dsimp only at x1 x2
      have hm : X[j]?.getD 0 ∈ X := by rw [List.getElem?_eq_getElem hjl]; exact List.getElem_mem hjl
      have HT := hidq (fun q (hq : q < j) => show 0 ≤ X[q]?.getD 0 ∧ X[q]?.getD 0 ≤ 18446744073709551615 ∧ M.toV h (X[j]?.getD 0) 0 (X[q]?.getD 0) 0 = false ∧ M.toE h (X[j]?.getD 0) 0 (X[q]?.getD 0) 0 = 0 by
        have hmq : X[q]?.getD 0 ∈ X := by rw [List.getElem?_eq_getElem (show q < X.length by omega)]; exact List.getElem_mem _
        have hk := HOK.out _ hmq
        obtain ⟨e1, e2⟩ := HAP.out _ _ hm hmq (HTT.out j q hjl hq)
        have := (M.ok_of hk).2.2.1
        have := M.ok_lt hk
        exact ⟨by omega, by omega, e2, e1⟩)
      have hyk := HOK.out _ hm
      have p1 := HH.out j hjl
      have p2 := HH2.out j
      have HSP := hidq (HSP0.out j hjl)
      generalize X[j]?.getD 0 = y at *
      have p3 := HHb.out y
      have hy1 : y ≤ 18446744073709551615 := by have := M.ok_lt hyk; omega
      have hy0 : 0 ≤ y := by have := (M.ok_of hyk).2.2.1; omega
      obtain ⟨eH, eV⟩ := HBO.out y hyk
      have HSC := hidq (fun W => has8_any h y 0 i W hy0 hy1 (by omega) (by omega) h0 h1)
      rw [eH, eV] at HSC
      have LC := hidq (fun W => leaves8_all h y 0 W hy0 hy1 (by omega) (by omega))
      rw [M.lvA_yes (M.sub_mk0 hyk), M.subE_yes (M.sub_mk0 hyk), M.lvs_bare] at LC
      generalize M.inS (M.lvs h y 0) i = r at *
      obtain ⟨A0, hA0⟩ : ∃ A0, M.Sm (M.hit h i) (X.take j) = A0 := ⟨_, rfl⟩
      obtain ⟨A1, hA1⟩ : ∃ A1, M.Sm (M.hit h i) (X.take (j + 1)) = A1 := ⟨_, rfl⟩
      rw [hA0] at p1 p2 ⊢
      rw [hA1, p3] at p1
      have HA1 := hidq hA1
      have HJL := hidq hjl
      have SX := hidq (Bi.new wr 34 y 0)
      obtain ⟨SXa, SXb⟩ := SX.out.facts
      have RX := hidq (below_one (o := (.cells #[.int .u64 y, .int .u64 0] 34)) (Below.refl wr.heap.size wr))
      have XR := hidq (X5.below hb)
      generalize M.low h y = lo at *
      generalize M.high h y = hi at *
      clear hm hyk p3 hA0 hA1 hb hjl eH eV hown
      cases r with
      | true =>
        have hw4 : IntKind.i64.wrap (A0 + 1) = A0 + 1 := by rw [IntKind.wrap_i64]; omega
        go_wp2_with (first | (go_at_call 15; refine (HSC.out _).mono ?_; rintro e w6 ⟨rfl, hb6⟩; have S6 := hidq (SX.out.below hb6); have R6 := hidq (below_trans RX.out hb6); have X6 := hidq (XR.out.below R6.out); clear hb6))
        go_loopw [111] (fun a wq => ∃ (q : Nat), q ≤ j ∧ a = .int .i64 q ∧ Below w6.heap.size w6 wq) (fun a _ => j - (intOf a).toNat)
        case atStart => exact ⟨0, by omega, rfl, Below.refl _ _⟩
        case round =>
          obtain ⟨q, hq, rfl, hbq⟩ := hrel
          have HBQ := hidq hbq
          have S7 := S6.out.below hbq
          obtain ⟨S7a, S7b⟩ := S7.facts
          by_cases hqj : q < j
          · have hqi : (q : Int) < j := by omega
            obtain ⟨z1, z2⟩ := Ss.at (X6.out.below hbq) (HAt.out q (Nat.lt_trans hqj HJL.out))
            dsimp only at z1 z2
            obtain ⟨g1, g2, g3, g4⟩ := HT.out q hqj
            generalize X[q]?.getD 0 = z at *
            have TC := hidq (fun W => touch_any h y 0 z 0 W ⟨hy0, hy1⟩ (by omega) ⟨g1, g2⟩ (by omega))
            rw [g3, g4] at TC
            have S9 := S7.alloc (.cells #[.int .u64 z, .int .u64 0] 34)
            obtain ⟨S9a, S9b⟩ := S9.facts
            have Z0 := Bi.new wr 34 z 0
            obtain ⟨Z0a, Z0b⟩ := Z0.facts
            clear hbq g3 g4
            go_wp2_with (first | (go_at_call 16; refine (TC.out _).mono ?_; rintro e w7 ⟨rfl, hb7⟩; have B7 := hidq (below_trans (below_one (o := (.cells #[.int .u64 z, .int .u64 0] 34)) HBQ.out) hb7); clear hb7))
            go_roundw
            case rel => exact ⟨q + 1, by omega, by go_num, B7.out⟩
            case measure => simp [intOf]; omega
          · obtain rfl : q = j := by omega
            have hqi : ¬ (q : Int) < q := by omega
            clear hbq
            go_wp2_with (first | (go_at_call 17; refine (LC.out _).mono ?_; rintro e w8 ⟨a8, c8, rfl, p8, hb8⟩; have S8 := (S6.out.below HBQ.out).below hb8; obtain ⟨S8a, S8b⟩ := S8.facts; have R8 := hidq (below_trans (below_trans R6.out HBQ.out) hb8); have P8 := hidq p8; clear hb8 p8) | (at_builtin; refine wpList_append_ps rfl _ _ 37 rfl w5.heap.size 43 i0 Try.underlying37 hi0 hz0 hz1 hz2 _ _ _ rfl (own_kept HO.out R8.out) _ [(lo, hi)] rfl P8.out (by simp only [List.length_cons, List.length_nil]; omega) (by have := BX.out.size; have := R8.out.size; omega) ?_; intro v9 w9 hown9 hgrow9; have O9 := hidq hown9; have B9 := hidq ((below_trans BX.out R8.out).grown hgrow9 (by have := BX.out.size; have := R8.out.size; omega) (fun q hq => (HO.out.lt q hq).1)); clear hown9 hgrow9))
            go_roundw
            case rel => exact ⟨q + 1, by omega, by go_num, by rw [HA1.out, p1]; rfl, by rw [HSP.out]; exact O9.out, B9.out⟩
            case measure => simp [intOf]; omega
      | false =>
        go_wp2_with (first | (go_at_call 15; refine (HSC.out _).mono ?_; rintro e w6 ⟨rfl, hb6⟩; have S6 := hidq (SX.out.below hb6); have R6 := hidq (below_trans RX.out hb6); have X6 := hidq (XR.out.below R6.out); clear hb6))
        go_loopw [111] (fun a wq => ∃ (q : Nat), q ≤ j ∧ a = .int .i64 q ∧ Below w6.heap.size w6 wq) (fun a _ => j - (intOf a).toNat)
        case atStart => exact ⟨0, by omega, rfl, Below.refl _ _⟩
        case round =>
          obtain ⟨q, hq, rfl, hbq⟩ := hrel
          have HBQ := hidq hbq
          have S7 := S6.out.below hbq
          obtain ⟨S7a, S7b⟩ := S7.facts
          by_cases hqj : q < j
          · have hqi : (q : Int) < j := by omega
            obtain ⟨z1, z2⟩ := Ss.at (X6.out.below hbq) (HAt.out q (Nat.lt_trans hqj HJL.out))
            dsimp only at z1 z2
            obtain ⟨g1, g2, g3, g4⟩ := HT.out q hqj
            generalize X[q]?.getD 0 = z at *
            have TC := hidq (fun W => touch_any h y 0 z 0 W ⟨hy0, hy1⟩ (by omega) ⟨g1, g2⟩ (by omega))
            rw [g3, g4] at TC
            have S9 := S7.alloc (.cells #[.int .u64 z, .int .u64 0] 34)
            obtain ⟨S9a, S9b⟩ := S9.facts
            have Z0 := Bi.new wr 34 z 0
            obtain ⟨Z0a, Z0b⟩ := Z0.facts
            clear hbq g3 g4
            go_wp2_with (first | (go_at_call 16; refine (TC.out _).mono ?_; rintro e w7 ⟨rfl, hb7⟩; have B7 := hidq (below_trans (below_one (o := (.cells #[.int .u64 z, .int .u64 0] 34)) HBQ.out) hb7); clear hb7))
            go_roundw
            case rel => exact ⟨q + 1, by omega, by go_num, B7.out⟩
            case measure => simp [intOf]; omega
          · obtain rfl : q = j := by omega
            have hqi : ¬ (q : Int) < q := by omega
            clear hbq
            go_wp2_with (first | (go_at_call 17; refine (LC.out _).mono ?_; rintro e w8 ⟨a8, c8, rfl, p8, hb8⟩; have S8 := (S6.out.below HBQ.out).below hb8; obtain ⟨S8a, S8b⟩ := S8.facts; have R8 := hidq (below_trans (below_trans R6.out HBQ.out) hb8); have P8 := hidq p8; clear hb8 p8) | (at_builtin; refine wpList_append_ps rfl _ _ 37 rfl w5.heap.size 43 i0 Try.underlying37 hi0 hz0 hz1 hz2 _ _ _ rfl (own_kept HO.out R8.out) _ [(lo, hi)] rfl P8.out (by simp only [List.length_cons, List.length_nil]; omega) (by have := BX.out.size; have := R8.out.size; omega) ?_; intro v9 w9 hown9 hgrow9; have O9 := hidq hown9; have B9 := hidq ((below_trans BX.out R8.out).grown hgrow9 (by have := BX.out.size; have := R8.out.size; omega) (fun q hq => (HO.out.lt q hq).1)); clear hown9 hgrow9))
            go_roundw
            case rel => exact ⟨q + 1, by omega, by go_num, by rw [HA1.out, p1]; simp, by rw [HSP.out]; exact O9.out, B9.out⟩
            case measure => simp [intOf]; omega
    · obtain rfl : j = N := by omega
      have hji : ¬ (j : Int) < j := by omega
      have hXt : X.take j = X := List.take_of_length_le (by have := HAl.out; omega)
      rw [hXt] at hown
      have HPS := hidq (show Ps wr _ (M.spn h X) from Ps.of_own hown (fun z hz => by
        obtain ⟨y, hy, rfl⟩ := List.mem_map.1 hz
        have := M.low_bd (HOK.out y hy)
        dsimp only
        omega))
      have hsl : (M.spn h X).length = j := by unfold M.spn; rw [List.length_map]; have := HAl.out; omega
      obtain ⟨aS, cS, rfl, kS, -, vS⟩ := HPS.out.form
      rw [hsl] at HPS kS ⊢
      obtain ⟨c1, c2, c3⟩ := HE2.out
      rw [← HAl.out] at c1 c2 c3
      obtain ⟨Cn, hCn⟩ : ∃ Cn, M.Sm (M.hit h i) (X.take j) = Cn := ⟨_, rfl⟩
      rw [hCn] at c1 c2 c3 ⊢
      have HAN := hidq HAl.out
      clear hb hown hXt hsl hCn
      by_cases hf : fE = 0
      · have hh := HFH.out hf
        have c4 := c3 hf
        by_cases hm : i ∈ L
        · rw [if_pos hm] at c4
          rw [M.has_iff.2 hm] at hh
          subst hh hf c4
          clear c1 c2 c3 hm
          go_wp2
          go_loopw [165, 26] (fun a b wq => ∃ (k : Nat), k ≤ j ∧ a = .int .i64 k ∧ b = .int .u64 (M.Sm (M.wid h) (X.take k)) ∧ Below wr.heap.size wr wq) (fun a _ _ => j - (intOf a).toNat)
          case atStart => exact ⟨0, by omega, rfl, rfl, Below.refl _ _⟩
          case round =>
            obtain ⟨k, hk, rfl, rfl, hbk⟩ := hrel
            have HBK := hidq hbk
            by_cases hkn : k < j
            · have hki : (k : Int) < j := by omega
              obtain ⟨bS, oS, rfl⟩ := vS (by omega)
              have hkl : k < X.length := by have := HAN.out; omega
              obtain ⟨y1, y2⟩ := Ps.at (HPS.out.below hbk) (HSA.out k hkl)
              dsimp only at y1 y2
              have hm : X[k]?.getD 0 ∈ X := by rw [List.getElem?_eq_getElem hkl]; exact List.getElem_mem hkl
              have hyk := HOK.out _ hm
              have e1 := HW.out k hkl
              have e2 := HSum.out (k + 1)
              have e3 := HSum.out k
              have e4 := HE1.out
              rw [List.take_length] at e4
              generalize X[k]?.getD 0 = y at *
              have hlb := M.low_bd hyk
              have hwd : M.wid h y = M.high h y - M.low h y + 1 := rfl
              rw [hwd] at e1
              generalize M.low h y = lo at *
              generalize M.high h y = hi at *
              obtain ⟨A1, hA1⟩ : ∃ A1, M.Sm (M.wid h) (X.take (k + 1)) = A1 := ⟨_, rfl⟩
              obtain ⟨A0, hA0⟩ : ∃ A0, M.Sm (M.wid h) (X.take k) = A0 := ⟨_, rfl⟩
              rw [hA1] at e1 e2
              rw [hA0] at e1 e3 ⊢
              have hw1 : IntKind.u64.wrap (hi - lo) = hi - lo := M.wrapu_id (by omega) (by omega)
              have hw2 : IntKind.u64.wrap (hi - lo + 1) = hi - lo + 1 := M.wrapu_id (by omega) (by omega)
              have hw3 : IntKind.u64.wrap (A0 + (hi - lo + 1)) = A1 := by rw [M.wrapu_id (by omega) (by omega)]; omega
              have HA1 := hidq hA1
              have D0 := Bd.new wr 43 lo hi
              obtain ⟨D0a, D0b⟩ := D0.facts
              clear hbk hm hyk e1 e2 e3 e4 hlb hwd hA1 hA0 hkl
              go_wp2
              go_roundw
              case rel => exact ⟨k + 1, by omega, by go_num, by rw [HA1.out], below_one HBK.out⟩
              case measure => simp [intOf]; omega
            · obtain rfl : k = j := by omega
              have hki : ¬ (k : Int) < k := by omega
              have BW := hidq (below_trans BX.out HBK.out)
              have e1 := HE1.out
              rw [← HAN.out] at e1
              rw [e1]
              clear hbk e1
              go_wp2_with (first | (go_at_call 18; refine (gaps_yes h L _ _ (U5.below BW.out) HS.out).mono ?_; rw [HGG.out]; rintro e w10 ⟨v10, rfl, ho10, hb10⟩; have P10 := Ps.of_own ho10 HGF.out; obtain ⟨a10, c10, rfl, -⟩ := P10.form; have B10 := hidq (below_trans BW.out hb10); clear ho10 hb10) | (go_at_call 19; refine (many_any h G _ _ P10).mono ?_; rw [HGE.out, HGV.out]; rintro e w11 ⟨rfl, hb11⟩; have B11 := hidq (below_trans B10.out hb11); clear hb11))
              go_ret
              exact ⟨rfl, below_trans hB5.out B11.out⟩
        · rw [if_neg hm] at c4
          rw [M.hasnt_iff.2 hm] at hh
          subst hh hf c4
          clear c1 c2 c3 hm
          go_wp2
          go_loopw [165, 26] (fun a b wq => ∃ (k : Nat), k ≤ j ∧ a = .int .i64 k ∧ b = .int .u64 (M.Sm (M.wid h) (X.take k)) ∧ Below wr.heap.size wr wq) (fun a _ _ => j - (intOf a).toNat)
          case atStart => exact ⟨0, by omega, rfl, rfl, Below.refl _ _⟩
          case round =>
            obtain ⟨k, hk, rfl, rfl, hbk⟩ := hrel
            have HBK := hidq hbk
            by_cases hkn : k < j
            · have hki : (k : Int) < j := by omega
              obtain ⟨bS, oS, rfl⟩ := vS (by omega)
              have hkl : k < X.length := by have := HAN.out; omega
              obtain ⟨y1, y2⟩ := Ps.at (HPS.out.below hbk) (HSA.out k hkl)
              dsimp only at y1 y2
              have hm : X[k]?.getD 0 ∈ X := by rw [List.getElem?_eq_getElem hkl]; exact List.getElem_mem hkl
              have hyk := HOK.out _ hm
              have e1 := HW.out k hkl
              have e2 := HSum.out (k + 1)
              have e3 := HSum.out k
              have e4 := HE1.out
              rw [List.take_length] at e4
              generalize X[k]?.getD 0 = y at *
              have hlb := M.low_bd hyk
              have hwd : M.wid h y = M.high h y - M.low h y + 1 := rfl
              rw [hwd] at e1
              generalize M.low h y = lo at *
              generalize M.high h y = hi at *
              obtain ⟨A1, hA1⟩ : ∃ A1, M.Sm (M.wid h) (X.take (k + 1)) = A1 := ⟨_, rfl⟩
              obtain ⟨A0, hA0⟩ : ∃ A0, M.Sm (M.wid h) (X.take k) = A0 := ⟨_, rfl⟩
              rw [hA1] at e1 e2
              rw [hA0] at e1 e3 ⊢
              have hw1 : IntKind.u64.wrap (hi - lo) = hi - lo := M.wrapu_id (by omega) (by omega)
              have hw2 : IntKind.u64.wrap (hi - lo + 1) = hi - lo + 1 := M.wrapu_id (by omega) (by omega)
              have hw3 : IntKind.u64.wrap (A0 + (hi - lo + 1)) = A1 := by rw [M.wrapu_id (by omega) (by omega)]; omega
              have HA1 := hidq hA1
              have D0 := Bd.new wr 43 lo hi
              obtain ⟨D0a, D0b⟩ := D0.facts
              clear hbk hm hyk e1 e2 e3 e4 hlb hwd hA1 hA0 hkl
              go_wp2
              go_roundw
              case rel => exact ⟨k + 1, by omega, by go_num, by rw [HA1.out], below_one HBK.out⟩
              case measure => simp [intOf]; omega
            · obtain rfl : k = j := by omega
              have hki : ¬ (k : Int) < k := by omega
              have BW := hidq (below_trans BX.out HBK.out)
              have e1 := HE1.out
              rw [← HAN.out] at e1
              rw [e1]
              clear hbk e1
              go_wp2_with (first | (go_at_call 18; refine (gaps_yes h L _ _ (U5.below BW.out) HS.out).mono ?_; rw [HGG.out]; rintro e w10 ⟨v10, rfl, ho10, hb10⟩; have P10 := Ps.of_own ho10 HGF.out; obtain ⟨a10, c10, rfl, -⟩ := P10.form; have B10 := hidq (below_trans BW.out hb10); clear ho10 hb10) | (go_at_call 19; refine (many_any h G _ _ P10).mono ?_; rw [HGE.out, HGV.out]; rintro e w11 ⟨rfl, hb11⟩; have B11 := hidq (below_trans B10.out hb11); clear hb11))
              go_ret
              exact ⟨rfl, below_trans hB5.out B11.out⟩
      · have hfb : (fE == 0) = false := by rw [beq_eq_false_iff_ne]; exact hf
        have c5 : ¬ 1 < Cn := by omega
        clear c1 c2 c3
        go_wp2
        go_loopw [165, 26] (fun a b wq => ∃ (k : Nat), k ≤ j ∧ a = .int .i64 k ∧ b = .int .u64 (M.Sm (M.wid h) (X.take k)) ∧ Below wr.heap.size wr wq) (fun a _ _ => j - (intOf a).toNat)
        case atStart => exact ⟨0, by omega, rfl, rfl, Below.refl _ _⟩
        case round =>
          obtain ⟨k, hk, rfl, rfl, hbk⟩ := hrel
          have HBK := hidq hbk
          by_cases hkn : k < j
          · have hki : (k : Int) < j := by omega
            obtain ⟨bS, oS, rfl⟩ := vS (by omega)
            have hkl : k < X.length := by have := HAN.out; omega
            obtain ⟨y1, y2⟩ := Ps.at (HPS.out.below hbk) (HSA.out k hkl)
            dsimp only at y1 y2
            have hm : X[k]?.getD 0 ∈ X := by rw [List.getElem?_eq_getElem hkl]; exact List.getElem_mem hkl
            have hyk := HOK.out _ hm
            have e1 := HW.out k hkl
            have e2 := HSum.out (k + 1)
            have e3 := HSum.out k
            have e4 := HE1.out
            rw [List.take_length] at e4
            generalize X[k]?.getD 0 = y at *
            have hlb := M.low_bd hyk
            have hwd : M.wid h y = M.high h y - M.low h y + 1 := rfl
            rw [hwd] at e1
            generalize M.low h y = lo at *
            generalize M.high h y = hi at *
            obtain ⟨A1, hA1⟩ : ∃ A1, M.Sm (M.wid h) (X.take (k + 1)) = A1 := ⟨_, rfl⟩
            obtain ⟨A0, hA0⟩ : ∃ A0, M.Sm (M.wid h) (X.take k) = A0 := ⟨_, rfl⟩
            rw [hA1] at e1 e2
            rw [hA0] at e1 e3 ⊢
            have hw1 : IntKind.u64.wrap (hi - lo) = hi - lo := M.wrapu_id (by omega) (by omega)
            have hw2 : IntKind.u64.wrap (hi - lo + 1) = hi - lo + 1 := M.wrapu_id (by omega) (by omega)
            have hw3 : IntKind.u64.wrap (A0 + (hi - lo + 1)) = A1 := by rw [M.wrapu_id (by omega) (by omega)]; omega
            have HA1 := hidq hA1
            have D0 := Bd.new wr 43 lo hi
            obtain ⟨D0a, D0b⟩ := D0.facts
            clear hbk hm hyk e1 e2 e3 e4 hlb hwd hA1 hA0 hkl
            go_wp2
            go_roundw
            case rel => exact ⟨k + 1, by omega, by go_num, by rw [HA1.out], below_one HBK.out⟩
            case measure => simp [intOf]; omega
          · obtain rfl : k = j := by omega
            have hki : ¬ (k : Int) < k := by omega
            have BW := hidq (below_trans BX.out HBK.out)
            have e1 := HE1.out
            rw [← HAN.out] at e1
            rw [e1]
            clear hbk e1
            go_wp2_with (first | (go_at_call 18; refine (gaps_yes h L _ _ (U5.below BW.out) HS.out).mono ?_; rw [HGG.out]; rintro e w10 ⟨v10, rfl, ho10, hb10⟩; have P10 := Ps.of_own ho10 HGF.out; obtain ⟨a10, c10, rfl, -⟩ := P10.form; have B10 := hidq (below_trans BW.out hb10); clear ho10 hb10) | (go_at_call 19; refine (many_any h G _ _ P10).mono ?_; rw [HGE.out, HGV.out]; rintro e w11 ⟨rfl, hb11⟩; have B11 := hidq (below_trans B10.out hb11); clear hb11))
            go_ret
            exact ⟨rfl, below_trans hB5.out B11.out⟩
theorem wholeCovers_walk (h : Int) (L : List Int) (v : Value) (i : Int) (w : World) (_ : -9223372036854775808 ≤ h) (_ : h ≤ 9223372036854775807) (hu : Us w v L) (h0 : 0 ≤ i) (h1 : i ≤ 18446744073709551615) :
    Calls Try.prog 4 #[.int .i64 h, v, .int .u64 i] w fun e w' => e = .returned (.bool true) ∧ Below w.heap.size w w' := by
  by_cases hl : L.length ≤ 30
  · by_cases hs : M.setE h L = 0
    · by_cases hn : L = []
      · exact wholeCovers_nil h L v i w hu h0 h1 hl (M.setE_zero.1 hs) hn
      · exact wholeCovers_yes h L v i w hu h0 h1 hl (M.setE_zero.1 hs) hn
    · exact wholeCovers_no h L v i w hu hl hs
  · exact wholeCovers_long h L v i w hu hl
end Go.Proofs.Ytedilnipfjggfaa
