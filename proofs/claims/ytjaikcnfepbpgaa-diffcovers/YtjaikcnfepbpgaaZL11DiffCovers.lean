/-
  The law DiffCovers returns true at every input: each leaf that is not in the set is in just one subset of the cover by differences, none of the set is in any; no two touch, they stand in order, there are no more than the bound, and they have as many leaves as the gaps. Conditions: the slice holds numbers, the numbers fit their kinds.
-/
import Derived.Test.YtjaikcnfepbpgaaZGM
import Derived.Test.YtjaikcnfepbpgaaZJ5
import Derived.Test.YtjaikcnfepbpgaaZTR
namespace Go.Proofs.Ytjaikcnfepbpgaa
open Go.RowKit
theorem lss_yes {I J K L : Int} (h : I < K) : M.lssB I J K L = true := by
  unfold M.lssB
  rw [decide_eq_true h]; rfl
namespace M
theorem has_sub {h i I J : Int} {L : List Int} (hs : setB h L = true) (hk : subB h I J = true) : shE h I J i = findE h L i ∧ shV h I J i = inS (lvs h I J) i := by
  obtain ⟨s1, s2, -⟩ := set_of hs
  by_cases hi : i < p2 h
  · obtain ⟨e1, e2⟩ := sh_yes hk (leafE_yes s1 s2 hi)
    refine ⟨?_, e2⟩
    rw [e1]
    unfold findE isB
    rw [hs, ht_mk s1 s2, decide_eq_true hi]; rfl
  · obtain ⟨e1, e2⟩ := sh_no (h := h) (I := I) (J := J) (i := i) (fun hx => by rw [leafE_no s1 s2 hi] at hx; exact absurd hx.2 (by decide))
    rw [e1, e2, inS_out hk (by omega)]
    refine ⟨?_, rfl⟩
    unfold findE isB
    rw [decide_eq_false hi, Bool.and_false, Bool.and_false]; rfl
end M
set_option maxRecDepth 100000 in
set_option maxHeartbeats 4000000 in
theorem diffCovers_long (h : Int) (L : List Int) (v : Value) (i : Int) (w : World) (hu : Us w v L) (hl : ¬ L.length ≤ 30) :
    Calls Try.prog 4 #[.int .i64 h, v, .int .u64 i] w fun e w' => e = .returned (.bool true) ∧ Below w.heap.size w w' := by
  obtain ⟨ao, cap, rfl, -⟩ := us_view hu
  have hB0 := Below.refl w.heap.size w
  have U0 := hu
  have hli : (30 : Int) < L.length := by omega
  clear hl hu
  have T1 := hidq trivial
  go_enter Try.func4, Try.ntmps4
  go_wp2_with (first | (go_at_call 8; clear T1; refine (live11_any _).mono ?_; rintro e w1 ⟨rfl, hb1⟩; have U1 := (U0.below hb1); clear U0; have hB1 := below_trans hB0 hb1))
  go_ret
  exact ⟨rfl, hB1⟩
set_option maxRecDepth 100000 in
set_option maxHeartbeats 4000000 in
theorem diffCovers_no (h : Int) (L : List Int) (v : Value) (i : Int) (w : World) (hu : Us w v L) (hl : L.length ≤ 30) (hs : ¬ M.setE h L = 0) :
    Calls Try.prog 4 #[.int .i64 h, v, .int .u64 i] w fun e w' => e = .returned (.bool true) ∧ Below w.heap.size w w' := by
  have CA := hidq (fun W v (u : Us W v L) => dcover_any h L v W u)
  rw [M.dfL_no hs, M.setE_one hs] at CA
  obtain ⟨ao, cap, rfl, -⟩ := us_view hu
  have hB0 := Below.refl w.heap.size w
  have U0 := hu
  have hli : ¬ (30 : Int) < L.length := by omega
  have T1 := hidq trivial
  have T2 := hidq trivial
  clear hl hu hs
  go_enter Try.func4, Try.ntmps4
  go_wp2_with (first | (go_at_call 8; clear T1; refine (live11_any _).mono ?_; rintro e w1 ⟨rfl, hb1⟩; have U1 := (U0.below hb1); clear U0; have hB1 := below_trans hB0 hb1) | (go_at_call 9; clear T2; refine (CA.out _ _ U1).mono ?_; rintro e w2 ⟨x, rfl, X2, hb2⟩; have U2 := (U1.below hb2); clear U1; have hB2 := below_trans hB1 hb2; obtain ⟨aX2, cX2, rfl, kX2, -, vX2⟩ := X2.form))
  go_ret
  exact ⟨rfl, hB2⟩
set_option maxRecDepth 100000 in
set_option maxHeartbeats 8000000 in
theorem diffCovers_yes (h : Int) (L : List Int) (v : Value) (i : Int) (w : World) (hu : Us w v L) (h0 : 0 ≤ i) (h1 : i ≤ 18446744073709551615) (hl : L.length ≤ 30) (hs : M.setB h L = true) :
    Calls Try.prog 4 #[.int .i64 h, v, .int .u64 i] w fun e w' => e = .returned (.bool true) ∧ Below w.heap.size w w' := by
  have CA := hidq (fun W v (u : Us W v L) => dcover_any h L v W u)
  have HA := hidq (fun W v (u : Us W v L) => has_any h L v i W u h0 h1)
  obtain ⟨b1, b2⟩ := M.dfL_bound hs
  have BN := hidq (fun W => dbound_any h L.length W (by omega) (by omega))
  rw [show M.bdE h L.length = 0 by unfold M.bdE; rw [b1]; rfl] at BN
  have hdl : M.dbV h L.length ≤ 61 := by unfold M.dbV; rw [b1, if_pos rfl]; split <;> omega
  obtain ⟨s1, s2, -⟩ := M.set_of hs
  have hp32 := M.p2_32 s2
  have hpp := M.p2_pos h
  obtain ⟨a1, a2, a3, -, -, a6⟩ := M.all_facts hs
  obtain ⟨q3, q4⟩ := M.dfL_many hs
  obtain ⟨t1, t2, t3⟩ := M.dfL_told (i := i) hs h0
  have HSu := hidq (M.dfL_sub hs)
  have HFi := hidq (M.dfL_fit hs)
  have HAP := hidq (fun q k s t hqk hq hk => M.dfL_apart (q := q) (k := k) (s := s) (t := t) hs hqk hq hk)
  have HBO := hidq (fun I J (hx : M.subB h I J = true) => M.has_sub (i := i) hs hx)
  have HRi := hidq (M.dfL_rise hs)
  rw [M.setE_zero.2 hs] at CA
  generalize M.dfL h L = C at *
  have HMn := hidq q4
  have HSum := hidq (fun k => M.Sg_part (f := M.mnN h) (X := C) (fun x hx => by have := q4 x hx; omega) k)
  have HW := hidq (fun (k : Nat) (x : Int × Int) (hk : C[k]? = some x) => M.Sg_take (f := M.mnN h) hk)
  have HH := hidq (fun (k : Nat) (x : Int × Int) (hk : C[k]? = some x) => M.Sg_take (f := M.inN h i) hk)
  have HH2 := hidq (fun (k : Nat) => show 0 ≤ M.Sg (M.inN h i) (C.take k) ∧ M.Sg (M.inN h i) (C.take k) ≤ 1000 by
    have := M.inN_len h i (C.take k)
    rw [List.length_take] at *; omega)
  have HRR := hidq (fun (q k : Nat) (x y : Int × Int) (hq : C[q]? = some x) (hk : C[k]? = some y) (hqk : q < k) => show x.1 < y.1 by
    obtain ⟨h1, rfl⟩ := List.getElem?_eq_some_iff.1 hq
    obtain ⟨h2, rfl⟩ := List.getElem?_eq_some_iff.1 hk
    exact List.pairwise_iff_getElem.1 HRi.out q k h1 h2 hqk)
  have HE1 := hidq (show M.Sg (M.mnN h) (C.take C.length) = M.p2 h - L.length by rw [List.take_length]; omega)
  have HE0 := hidq (show M.Sg (M.mnN h) C ≤ 4294967296 by omega)
  have HE2 := hidq (show 0 ≤ M.Sg (M.inN h i) (C.take C.length) ∧ M.Sg (M.inN h i) (C.take C.length) ≤ 1 ∧ (M.findE h L i = 0 → M.Sg (M.inN h i) (C.take C.length) = if i ∈ L then 0 else 1) by rw [List.take_length]; exact ⟨t1, t2, t3⟩)
  obtain ⟨G, hG⟩ : ∃ G, M.gapsL 0 (M.p2 h - 1) L = G := ⟨_, rfl⟩
  rw [hG] at a1 a2 a3 a6
  have HGG := hidq hG
  have HGE := hidq a1
  have HGV := hidq (show M.manyV h G = M.p2 h - L.length by omega)
  have HGF := hidq (show ∀ x ∈ G, 0 ≤ x.1 ∧ x.1 ≤ 18446744073709551615 ∧ 0 ≤ x.2 ∧ x.2 ≤ 18446744073709551615 from fun x hx => by have := a6 x hx; omega)
  have HFH := hidq (fun (hf : M.findE h L i = 0) => show M.hasV h L i = M.has L i by unfold M.hasV; rw [hf]; simp)
  obtain ⟨V, hV⟩ : ∃ V, M.dbV h L.length = V := ⟨_, rfl⟩
  rw [hV] at BN b2 hdl
  obtain ⟨ao, cap, rfl, -⟩ := us_view hu
  have hB0 := Below.refl w.heap.size w
  have U0 := hu
  have hli : ¬ (30 : Int) < L.length := by omega
  have T1 := hidq trivial
  have T2 := hidq trivial
  have T3 := hidq trivial
  have HS := hidq hs
  have hVn : ¬ V < (C.length : Int) := by omega
  have hwl : IntKind.u64.wrap (C.length : Int) = C.length := M.wrapu_id (by omega) (by omega)
  have HCl := hidq (show C.length ≤ 61 by omega)
  clear hu hs hl q3 q4 t1 t2 t3 a1 a2 a3 a6 hG hV b1 b2 hdl
  go_enter Try.func4, Try.ntmps4
  go_wp2_with (first | (go_at_call 8; clear T1; refine (live11_any _).mono ?_; rintro e w1 ⟨rfl, hb1⟩; have U1 := (U0.below hb1); clear U0; have hB1 := below_trans hB0 hb1) | (go_at_call 9; clear T2; refine (CA.out _ _ U1).mono ?_; rintro e w2 ⟨x, rfl, X2, hb2⟩; have U2 := (U1.below hb2); clear U1; have hB2 := below_trans hB1 hb2; obtain ⟨aX2, cX2, rfl, kX2, -, vX2⟩ := X2.form) | (go_at_call 11; refine (BN.out _).mono ?_; rintro e w3 ⟨rfl, hb3⟩; have U3 := (U2.below hb3); have X3 := (X2.below hb3); clear U2 X2; have hB3 := below_trans hB2 hb3) | (go_at_call 14; refine (HA.out _ _ U3).mono ?_; rintro e w5 ⟨rfl, hb5⟩; have U5 := (U3.below hb5); have X5 := (X3.below hb5); clear U3 X3; have hB5 := hidq (below_trans hB3 hb5)))
  generalize hN : C.length = N at *
  have HN := hidq hN
  have hN8 := HCl.out
  clear hN hwl hVn
  obtain ⟨fE, hfE⟩ : ∃ fE, M.findE h L i = fE := ⟨_, rfl⟩
  obtain ⟨hV, hhV⟩ : ∃ hV, M.hasV h L i = hV := ⟨_, rfl⟩
  rw [hfE] at HBO HE2 HFH ⊢
  rw [hhV] at HFH ⊢
  clear hfE hhV
  go_loopw [76, 12, 15] (fun a b c wr => ∃ (j : Nat), j ≤ N ∧ a = .int .i64 j ∧ b = .int .i64 (M.Sg (M.inN h i) (C.take j)) ∧ c = .int .u64 (M.Sg (M.mnN h) (C.take j)) ∧ Below w5.heap.size w5 wr) (fun a _ _ _ => N - (intOf a).toNat)
  case atStart => exact ⟨0, by omega, rfl, rfl, rfl, Below.refl _ _⟩
  case round =>
    obtain ⟨j, hj, rfl, rfl, rfl, hb⟩ := hrel
    obtain ⟨wz, hwz⟩ : ∃ wz, wz = wr := ⟨_, rfl⟩
    subst hwz
    have BX := hidq hb
    by_cases hjn : j < N
    · have hji : (j : Int) < N := by omega
      obtain ⟨bF, oF, rfl⟩ := vX2 (by omega)
      have hcx : ¬ cX2 = 0 := by omega
      have HJL := hidq (show j < C.length by rw [HN.out]; exact hjn)
      obtain ⟨s, hsj⟩ : ∃ s, C[j]? = some s := ⟨_, List.getElem?_eq_getElem HJL.out⟩
      obtain ⟨x1, x2⟩ := Ss.at (X5.below hb) hsj
      have hm := List.mem_of_getElem? hsj
      have HT := hidq (fun q t (hq : C[q]? = some t) (hqj : q < j) => show M.toV h s.1 s.2 t.1 t.2 = false ∧ M.toE h s.1 s.2 t.1 t.2 = 0 from ⟨(HAP.out q j t s hqj hq hsj).2, (HAP.out q j t s hqj hq hsj).1⟩)
      have HRj := hidq (fun q t (hq : C[q]? = some t) (hqj : q < j) => HRR.out q j t s hq hsj hqj)
      have p1 := HH.out j s hsj
      have p2 := HH2.out j
      have p3 := HW.out j s hsj
      have p4 := HSum.out j
      have p5 := HSum.out (j + 1)
      have hE0 := HE0.out
      obtain ⟨m1, m2, m3⟩ := HMn.out s hm
      obtain ⟨f1, f2, f3, f4, -⟩ := HFi.out s hm
      have hsb := HSu.out s hm
      obtain ⟨y, d⟩ := s
      dsimp only at x1 x2 HT HRj m1 m2 m3 f1 f2 f3 f4 hsb
      have hy0 : 0 ≤ y := by omega
      have hy1 := f2
      have hd0 := f3
      have hd1 := f4
      obtain ⟨eH, eV⟩ := HBO.out y d hsb
      have HSC := hidq (fun W => has8_any h y d i W hy0 hy1 hd0 hd1 h0 h1)
      rw [eH, eV] at HSC
      have LC := hidq (fun W => leaves8_all h y d W hy0 hy1 hd0 hd1)
      rw [M.lvA_yes hsb, M.subE_yes hsb] at LC
      have MC := hidq (fun W v (u : Ps W v (M.lvs h y d)) => many_any h _ v W u)
      obtain ⟨mm, hmm⟩ : ∃ mm, M.mnN h (y, d) = mm := ⟨_, rfl⟩
      rw [m1, show M.manyV h (M.lvs h y d) = mm from hmm] at MC
      rw [hmm] at m2 m3 p3
      have hin : M.inN h i (y, d) = if M.inS (M.lvs h y d) i = true then 1 else 0 := rfl
      rw [hin] at p1
      generalize M.inS (M.lvs h y d) i = r at *
      generalize M.lvs h y d = S at *
      obtain ⟨A0, hA0⟩ : ∃ A0, M.Sg (M.inN h i) (C.take j) = A0 := ⟨_, rfl⟩
      obtain ⟨A1, hA1⟩ : ∃ A1, M.Sg (M.inN h i) (C.take (j + 1)) = A1 := ⟨_, rfl⟩
      obtain ⟨M0, hM0⟩ : ∃ M0, M.Sg (M.mnN h) (C.take j) = M0 := ⟨_, rfl⟩
      obtain ⟨M1, hM1⟩ : ∃ M1, M.Sg (M.mnN h) (C.take (j + 1)) = M1 := ⟨_, rfl⟩
      rw [hA0] at p1 p2 ⊢
      rw [hA1] at p1
      rw [hM0] at p3 p4 ⊢
      rw [hM1] at p3 p5
      have hw5 : IntKind.u64.wrap (M0 + mm) = M1 := by rw [M.wrapu_id (by omega) (by omega)]; omega
      have HA1 := hidq hA1
      have HM1 := hidq hM1
      have SX := hidq (Bi.new wz 36 y d)
      obtain ⟨SXa, SXb⟩ := SX.out.facts
      have RX := hidq (below_one (o := (.cells #[.int .u64 y, .int .u64 d] 36)) (Below.refl wz.heap.size wz))
      have XR := hidq (X5.below hb)
      clear hm hA0 hA1 hM0 hM1 hb eH eV p3 p4 p5 hE0 hsb m1 m2 m3 hmm hin hsj
      by_cases hj0 : ¬ (0 : Int) < j
      · have hjd : decide ((0 : Int) < (j : Int)) = false := decide_eq_false hj0
        have hjd3 : decide (0 < j) = false := decide_eq_false (by omega)
        cases r with
        | true =>
          have hw4 : IntKind.i64.wrap (A0 + 1) = A0 + 1 := by rw [IntKind.wrap_i64]; omega
          go_wp2_with (first | (go_at_call 15; refine (HSC.out _).mono ?_; rintro e w6 ⟨rfl, hb6⟩; have S6 := hidq (SX.out.below hb6); have R6 := hidq (below_trans RX.out hb6); have X6 := hidq (XR.out.below R6.out); clear hb6))
          obtain ⟨G', HG, HFc, HOc, HW, ne⟩ := clq_of wz w6 (fun X' => Bi X' wz.heap.size 36 y d ∧ Ss X' (.slice (some ⟨bF, oF, none⟩) N cX2) C) (fun _ _ h hb => ⟨h.1.below hb, h.2.below hb⟩) ⟨S6.out, X6.out⟩ R6.out
          have h1c := fun c : Clq G' => (HFc.out c).1.facts.1
          have h2c := fun c : Clq G' => (HFc.out c).1.facts.2
          refine regionq (by kernel_rfl) (by kernel_rfl) HW.out ?_
          repeat (go_big_quiet_step (first | (go_at_call 16; exact quietq HG.out _ (LS.out _))))
          refine wpQuiet_nil ?_
          rintro _ ⟨s9, rfl⟩
          have S9 := hidq (HFc.out s9).1
          have X9 := hidq (HFc.out s9).2
          have R9z := hidq (HOc.out s9)
          obtain ⟨S9a, S9b⟩ := S9.out.facts
          generalize s9.W = W9 at *
          clear h1c h2c
          go_wp2
          go_loopw [112] (fun a wq => ∃ (q : Nat), q ≤ j ∧ a = .int .i64 q ∧ Below W9.heap.size W9 wq) (fun a _ => j - (intOf a).toNat)
          case atStart => exact ⟨0, by omega, rfl, Below.refl _ _⟩
          case round =>
            obtain ⟨q, hq, rfl, hbq⟩ := hrel
            have HBQ := hidq hbq
            have S7 := S9.out.below hbq
            obtain ⟨S7a, S7b⟩ := S7.facts
            by_cases hqj : q < j
            · exact absurd hqj (by omega)
            · obtain rfl : q = j := by omega
              have hqi : ¬ (q : Int) < q := by omega
              clear hbq
              go_wp2_with (first | (go_at_call 18; refine (LC.out _).mono ?_; rintro e w8 ⟨a8, c8, rfl, p8, hb8⟩; have R8 := hidq (below_trans HBQ.out hb8); have P8 := hidq p8; clear hb8 p8) | (go_at_call 19; clear T3; refine (MC.out _ _ P8.out).mono ?_; rintro e w9 ⟨rfl, hb9⟩; have R9 := hidq (below_trans R8.out hb9); clear hb9))
              go_roundw
              case rel => exact ⟨q + 1, by omega, by go_num, by rw [HA1.out, p1]; rfl, by rw [HM1.out], below_trans (below_trans BX.out R9z.out) R9.out⟩
              case measure => simp [intOf]; omega
        | false =>
          go_wp2_with (first | (go_at_call 15; refine (HSC.out _).mono ?_; rintro e w6 ⟨rfl, hb6⟩; have S6 := hidq (SX.out.below hb6); have R6 := hidq (below_trans RX.out hb6); have X6 := hidq (XR.out.below R6.out); clear hb6))
          obtain ⟨G', HG, HFc, HOc, HW, ne⟩ := clq_of wz w6 (fun X' => Bi X' wz.heap.size 36 y d ∧ Ss X' (.slice (some ⟨bF, oF, none⟩) N cX2) C) (fun _ _ h hb => ⟨h.1.below hb, h.2.below hb⟩) ⟨S6.out, X6.out⟩ R6.out
          have h1c := fun c : Clq G' => (HFc.out c).1.facts.1
          have h2c := fun c : Clq G' => (HFc.out c).1.facts.2
          refine regionq (by kernel_rfl) (by kernel_rfl) HW.out ?_
          repeat (go_big_quiet_step (first | (go_at_call 16; exact quietq HG.out _ (LS.out _))))
          refine wpQuiet_nil ?_
          rintro _ ⟨s9, rfl⟩
          have S9 := hidq (HFc.out s9).1
          have X9 := hidq (HFc.out s9).2
          have R9z := hidq (HOc.out s9)
          obtain ⟨S9a, S9b⟩ := S9.out.facts
          generalize s9.W = W9 at *
          clear h1c h2c
          go_wp2
          go_loopw [112] (fun a wq => ∃ (q : Nat), q ≤ j ∧ a = .int .i64 q ∧ Below W9.heap.size W9 wq) (fun a _ => j - (intOf a).toNat)
          case atStart => exact ⟨0, by omega, rfl, Below.refl _ _⟩
          case round =>
            obtain ⟨q, hq, rfl, hbq⟩ := hrel
            have HBQ := hidq hbq
            have S7 := S9.out.below hbq
            obtain ⟨S7a, S7b⟩ := S7.facts
            by_cases hqj : q < j
            · exact absurd hqj (by omega)
            · obtain rfl : q = j := by omega
              have hqi : ¬ (q : Int) < q := by omega
              clear hbq
              go_wp2_with (first | (go_at_call 18; refine (LC.out _).mono ?_; rintro e w8 ⟨a8, c8, rfl, p8, hb8⟩; have R8 := hidq (below_trans HBQ.out hb8); have P8 := hidq p8; clear hb8 p8) | (go_at_call 19; clear T3; refine (MC.out _ _ P8.out).mono ?_; rintro e w9 ⟨rfl, hb9⟩; have R9 := hidq (below_trans R8.out hb9); clear hb9))
              go_roundw
              case rel => exact ⟨q + 1, by omega, by go_num, by rw [HA1.out, p1]; simp, by rw [HM1.out], below_trans (below_trans BX.out R9z.out) R9.out⟩
              case measure => simp [intOf]; omega
      · obtain ⟨k, hk⟩ : ∃ k, j = k + 1 := ⟨j - 1, by omega⟩
        have hjg : (0 : Int) < j := by omega
        have hjg2 : 0 < j := by omega
        have hjk : (j : Int) - 1 = k := by omega
        have hkt : ((k : Int)).toNat = k := rfl
        have hkl : (k : Int) < N := by omega
        have hkw : IntKind.i64.wrap (j - 1 : Int) = k := by rw [IntKind.wrap_i64]; omega
        obtain ⟨t, hyk⟩ : ∃ t, C[k]? = some t := ⟨_, List.getElem?_eq_getElem (by have := HJL.out; omega)⟩
        have hlt := HRj.out k t hyk (by omega)
        obtain ⟨g1, g2, g5, g6, -⟩ := HFi.out t (List.mem_of_getElem? hyk)
        obtain ⟨z, e⟩ := t
        dsimp only at hlt g1 g2 g5 g6
        have LS := hidq (fun W => less8_any z e y d W ⟨by omega, g2⟩ ⟨g5, g6⟩ ⟨hy0, hy1⟩ ⟨hd0, hd1⟩)
        rw [lss_yes hlt] at LS
        clear hj0 hk hlt g1 g2 g5 g6
        cases r with
        | true =>
          have hw4 : IntKind.i64.wrap (A0 + 1) = A0 + 1 := by rw [IntKind.wrap_i64]; omega
          go_wp2_with (first | (go_at_call 15; refine (HSC.out _).mono ?_; rintro e w6 ⟨rfl, hb6⟩; have S6 := hidq (SX.out.below hb6); have R6 := hidq (below_trans RX.out hb6); have X6 := hidq (XR.out.below R6.out); clear hb6))
          obtain ⟨G', HG, HFc, HOc, HW, ne⟩ := clq_of wz w6 (fun X' => Bi X' wz.heap.size 36 y d ∧ Ss X' (.slice (some ⟨bF, oF, none⟩) N cX2) C) (fun _ _ h hb => ⟨h.1.below hb, h.2.below hb⟩) ⟨S6.out, X6.out⟩ R6.out
          have h1c := fun c : Clq G' => (HFc.out c).1.facts.1
          have h2c := fun c : Clq G' => (HFc.out c).1.facts.2
          have h3c := fun c : Clq G' => (Ss.at (HFc.out c).2 hyk).1
          have h4c := fun c : Clq G' => (Ss.at (HFc.out c).2 hyk).2
          dsimp only at h3c h4c
          refine regionq (by kernel_rfl) (by kernel_rfl) HW.out ?_
          repeat (go_big_quiet_step (first | (go_at_call 16; exact quietq HG.out _ (LS.out _))))
          refine wpQuiet_nil ?_
          rintro _ ⟨s9, rfl⟩
          have S9 := hidq (HFc.out s9).1
          have X9 := hidq (HFc.out s9).2
          have R9z := hidq (HOc.out s9)
          obtain ⟨S9a, S9b⟩ := S9.out.facts
          generalize s9.W = W9 at *
          clear h1c h2c h3c h4c
          go_wp2
          go_loopw [112] (fun a wq => ∃ (q : Nat), q ≤ j ∧ a = .int .i64 q ∧ Below W9.heap.size W9 wq) (fun a _ => j - (intOf a).toNat)
          case atStart => exact ⟨0, by omega, rfl, Below.refl _ _⟩
          case round =>
            obtain ⟨q, hq, rfl, hbq⟩ := hrel
            have HBQ := hidq hbq
            have S7 := S9.out.below hbq
            obtain ⟨S7a, S7b⟩ := S7.facts
            by_cases hqj : q < j
            · have hqi : (q : Int) < j := by omega
              obtain ⟨t, ht⟩ : ∃ t, C[q]? = some t := ⟨_, List.getElem?_eq_getElem (Nat.lt_trans hqj HJL.out)⟩
              obtain ⟨z1, z2⟩ := Ss.at (X9.out.below hbq) ht
              obtain ⟨g3, g4⟩ := HT.out q t ht hqj
              obtain ⟨g1, g2, g5, g6, -⟩ := HFi.out t (List.mem_of_getElem? ht)
              obtain ⟨z, e⟩ := t
              dsimp only at z1 z2 g1 g2 g3 g4 g5 g6
              have TC := hidq (fun W => touch_any h y d z e W ⟨hy0, hy1⟩ ⟨hd0, hd1⟩ ⟨by omega, g2⟩ ⟨g5, g6⟩)
              rw [g3, g4] at TC
              have S8 := S7.alloc (.cells #[.int .u64 z, .int .u64 e] 36)
              obtain ⟨S8a, S8b⟩ := S8.facts
              have Z0 := Bi.new wr 36 z e
              obtain ⟨Z0a, Z0b⟩ := Z0.facts
              clear hbq g3 g4 ht
              go_wp2_with (first | (go_at_call 17; refine (TC.out _).mono ?_; rintro rr w7 ⟨rfl, hb7⟩; have B7 := hidq (below_trans (below_one (o := (.cells #[.int .u64 z, .int .u64 e] 36)) HBQ.out) hb7); clear hb7))
              go_roundw
              case rel => exact ⟨q + 1, by omega, by go_num, B7.out⟩
              case measure => simp [intOf]; omega
            · obtain rfl : q = j := by omega
              have hqi : ¬ (q : Int) < q := by omega
              clear hbq
              go_wp2_with (first | (go_at_call 18; refine (LC.out _).mono ?_; rintro e w8 ⟨a8, c8, rfl, p8, hb8⟩; have R8 := hidq (below_trans HBQ.out hb8); have P8 := hidq p8; clear hb8 p8) | (go_at_call 19; clear T3; refine (MC.out _ _ P8.out).mono ?_; rintro e w9 ⟨rfl, hb9⟩; have R9 := hidq (below_trans R8.out hb9); clear hb9))
              go_roundw
              case rel => exact ⟨q + 1, by omega, by go_num, by rw [HA1.out, p1]; rfl, by rw [HM1.out], below_trans (below_trans BX.out R9z.out) R9.out⟩
              case measure => simp [intOf]; omega
        | false =>
          go_wp2_with (first | (go_at_call 15; refine (HSC.out _).mono ?_; rintro e w6 ⟨rfl, hb6⟩; have S6 := hidq (SX.out.below hb6); have R6 := hidq (below_trans RX.out hb6); have X6 := hidq (XR.out.below R6.out); clear hb6))
          obtain ⟨G', HG, HFc, HOc, HW, ne⟩ := clq_of wz w6 (fun X' => Bi X' wz.heap.size 36 y d ∧ Ss X' (.slice (some ⟨bF, oF, none⟩) N cX2) C) (fun _ _ h hb => ⟨h.1.below hb, h.2.below hb⟩) ⟨S6.out, X6.out⟩ R6.out
          have h1c := fun c : Clq G' => (HFc.out c).1.facts.1
          have h2c := fun c : Clq G' => (HFc.out c).1.facts.2
          have h3c := fun c : Clq G' => (Ss.at (HFc.out c).2 hyk).1
          have h4c := fun c : Clq G' => (Ss.at (HFc.out c).2 hyk).2
          dsimp only at h3c h4c
          refine regionq (by kernel_rfl) (by kernel_rfl) HW.out ?_
          repeat (go_big_quiet_step (first | (go_at_call 16; exact quietq HG.out _ (LS.out _))))
          refine wpQuiet_nil ?_
          rintro _ ⟨s9, rfl⟩
          have S9 := hidq (HFc.out s9).1
          have X9 := hidq (HFc.out s9).2
          have R9z := hidq (HOc.out s9)
          obtain ⟨S9a, S9b⟩ := S9.out.facts
          generalize s9.W = W9 at *
          clear h1c h2c h3c h4c
          go_wp2
          go_loopw [112] (fun a wq => ∃ (q : Nat), q ≤ j ∧ a = .int .i64 q ∧ Below W9.heap.size W9 wq) (fun a _ => j - (intOf a).toNat)
          case atStart => exact ⟨0, by omega, rfl, Below.refl _ _⟩
          case round =>
            obtain ⟨q, hq, rfl, hbq⟩ := hrel
            have HBQ := hidq hbq
            have S7 := S9.out.below hbq
            obtain ⟨S7a, S7b⟩ := S7.facts
            by_cases hqj : q < j
            · have hqi : (q : Int) < j := by omega
              obtain ⟨t, ht⟩ : ∃ t, C[q]? = some t := ⟨_, List.getElem?_eq_getElem (Nat.lt_trans hqj HJL.out)⟩
              obtain ⟨z1, z2⟩ := Ss.at (X9.out.below hbq) ht
              obtain ⟨g3, g4⟩ := HT.out q t ht hqj
              obtain ⟨g1, g2, g5, g6, -⟩ := HFi.out t (List.mem_of_getElem? ht)
              obtain ⟨z, e⟩ := t
              dsimp only at z1 z2 g1 g2 g3 g4 g5 g6
              have TC := hidq (fun W => touch_any h y d z e W ⟨hy0, hy1⟩ ⟨hd0, hd1⟩ ⟨by omega, g2⟩ ⟨g5, g6⟩)
              rw [g3, g4] at TC
              have S8 := S7.alloc (.cells #[.int .u64 z, .int .u64 e] 36)
              obtain ⟨S8a, S8b⟩ := S8.facts
              have Z0 := Bi.new wr 36 z e
              obtain ⟨Z0a, Z0b⟩ := Z0.facts
              clear hbq g3 g4 ht
              go_wp2_with (first | (go_at_call 17; refine (TC.out _).mono ?_; rintro rr w7 ⟨rfl, hb7⟩; have B7 := hidq (below_trans (below_one (o := (.cells #[.int .u64 z, .int .u64 e] 36)) HBQ.out) hb7); clear hb7))
              go_roundw
              case rel => exact ⟨q + 1, by omega, by go_num, B7.out⟩
              case measure => simp [intOf]; omega
            · obtain rfl : q = j := by omega
              have hqi : ¬ (q : Int) < q := by omega
              clear hbq
              go_wp2_with (first | (go_at_call 18; refine (LC.out _).mono ?_; rintro e w8 ⟨a8, c8, rfl, p8, hb8⟩; have R8 := hidq (below_trans HBQ.out hb8); have P8 := hidq p8; clear hb8 p8) | (go_at_call 19; clear T3; refine (MC.out _ _ P8.out).mono ?_; rintro e w9 ⟨rfl, hb9⟩; have R9 := hidq (below_trans R8.out hb9); clear hb9))
              go_roundw
              case rel => exact ⟨q + 1, by omega, by go_num, by rw [HA1.out, p1]; simp, by rw [HM1.out], below_trans (below_trans BX.out R9z.out) R9.out⟩
              case measure => simp [intOf]; omega
    · obtain rfl : j = N := by omega
      have hji : ¬ (j : Int) < j := by omega
      obtain ⟨c1, c2, c3⟩ := HE2.out
      obtain ⟨Cn, hCn⟩ : ∃ Cn, M.Sg (M.inN h i) (C.take j) = Cn := ⟨_, rfl⟩
      have e1 := HE1.out
      rw [hCn] at c1 c2 c3 ⊢
      rw [e1]
      clear hb hCn e1
      by_cases hf : fE = 0
      · have hh := HFH.out hf
        have c4 := c3 hf
        by_cases hm : i ∈ L
        · rw [if_pos hm] at c4
          rw [M.has_iff.2 hm] at hh
          subst hh hf c4
          clear c1 c2 c3 hm
          go_wp2_with (first | (go_at_call 20; refine (gaps_yes h L _ _ (U5.below BX.out) HS.out).mono ?_; rw [HGG.out]; rintro e w10 ⟨v10, rfl, ho10, hb10⟩; have P10 := Ps.of_own ho10 HGF.out; obtain ⟨a10, c10, rfl, -⟩ := P10.form; have B10 := hidq (below_trans BX.out hb10); clear ho10 hb10) | (go_at_call 19; refine (many_any h G _ _ P10).mono ?_; rw [HGE.out, HGV.out]; rintro e w11 ⟨rfl, hb11⟩; have B11 := hidq (below_trans B10.out hb11); clear hb11))
          go_ret
          exact ⟨rfl, below_trans hB5.out B11.out⟩
        · rw [if_neg hm] at c4
          rw [M.hasnt_iff.2 hm] at hh
          subst hh hf c4
          clear c1 c2 c3 hm
          go_wp2_with (first | (go_at_call 20; refine (gaps_yes h L _ _ (U5.below BX.out) HS.out).mono ?_; rw [HGG.out]; rintro e w10 ⟨v10, rfl, ho10, hb10⟩; have P10 := Ps.of_own ho10 HGF.out; obtain ⟨a10, c10, rfl, -⟩ := P10.form; have B10 := hidq (below_trans BX.out hb10); clear ho10 hb10) | (go_at_call 19; refine (many_any h G _ _ P10).mono ?_; rw [HGE.out, HGV.out]; rintro e w11 ⟨rfl, hb11⟩; have B11 := hidq (below_trans B10.out hb11); clear hb11))
          go_ret
          exact ⟨rfl, below_trans hB5.out B11.out⟩
      · have hfb : (fE == 0) = false := by rw [beq_eq_false_iff_ne]; exact hf
        have c5 : ¬ 1 < Cn := by omega
        clear c1 c2 c3
        go_wp2_with (first | (go_at_call 20; refine (gaps_yes h L _ _ (U5.below BX.out) HS.out).mono ?_; rw [HGG.out]; rintro e w10 ⟨v10, rfl, ho10, hb10⟩; have P10 := Ps.of_own ho10 HGF.out; obtain ⟨a10, c10, rfl, -⟩ := P10.form; have B10 := hidq (below_trans BX.out hb10); clear ho10 hb10) | (go_at_call 19; refine (many_any h G _ _ P10).mono ?_; rw [HGE.out, HGV.out]; rintro e w11 ⟨rfl, hb11⟩; have B11 := hidq (below_trans B10.out hb11); clear hb11))
        go_ret
        exact ⟨rfl, below_trans hB5.out B11.out⟩
set_option maxRecDepth 100000 in
theorem diffCovers_walk (h : Int) (L : List Int) (v : Value) (i : Int) (w : World) (_ : -9223372036854775808 ≤ h) (_ : h ≤ 9223372036854775807) (hu : Us w v L) (h0 : 0 ≤ i) (h1 : i ≤ 18446744073709551615) :
    Calls Try.prog 4 #[.int .i64 h, v, .int .u64 i] w fun e w' => e = .returned (.bool true) ∧ Below w.heap.size w w' := by
  by_cases hl : L.length ≤ 30
  · by_cases hs : M.setE h L = 0
    · exact diffCovers_yes h L v i w hu h0 h1 hl (M.setE_zero.1 hs)
    · exact diffCovers_no h L v i w hu hl hs
  · exact diffCovers_long h L v i w hu hl
end Go.Proofs.Ytjaikcnfepbpgaa
