/-
  The law LayerCovers returns true at every input: by each scheme each leaf that is not in the set is in just one subset of the cover, none of the set is in any; each may be of the scheme, they stand in order, there are no more than the bound, and they have as many leaves as the gaps. Conditions: the slice holds numbers, the numbers fit their kinds.
-/
import Derived.Test.YtmicgojojkkkhaaZFU
import Derived.Test.YtmicgojojkkkhaaZLM
import Derived.Test.YtmicgojojkkkhaaZTR
import Derived.Test.YtmicgojojkkkhaaZX6
import Derived.Test.YtmicgojojkkkhaaZXD1
namespace Go.Proofs.Ytmicgojojkkkhaa
open Go.RowKit
namespace M
theorem has_subq {h i I J : Int} {L : List Int} (hs : setB h L = true) (hk : subB h I J = true) : shE h I J i = fndE h L i ∧ shV h I J i = inS (lvs h I J) i := by
  obtain ⟨s1, s2, -⟩ := set_of hs
  by_cases hi : i < p2 h
  · obtain ⟨e1, e2⟩ := sh_yes hk (leafE_yes s1 s2 hi)
    refine ⟨?_, e2⟩
    rw [e1]
    unfold fndE isB
    rw [hs, ht_mk s1 s2, decide_eq_true hi]; rfl
  · obtain ⟨e1, e2⟩ := sh_no (h := h) (I := I) (J := J) (i := i) (fun hx => by rw [leafE_no s1 s2 hi] at hx; exact absurd hx.2 (by decide))
    rw [e1, e2, inS_out hk (by omega)]
    refine ⟨?_, rfl⟩
    unfold fndE isB
    rw [decide_eq_false hi, Bool.and_false, Bool.and_false]; rfl
theorem sub_fit {h I J : Int} (hs : subB h I J = true) : 0 ≤ I ∧ I ≤ 18446744073709551615 ∧ 0 ≤ J ∧ J ≤ 18446744073709551615 := by
  have hI := (sub_of hs).1
  have k1 := (ok_of hI).2.2.1
  have k2 := ok_lt hI
  by_cases hJ : J = 0
  · omega
  · have hK := (sub_in hs hJ).1
    have j1 := (ok_of hK).2.2.1
    have j2 := ok_lt hK
    omega
end M
set_option maxRecDepth 100000 in
set_option maxHeartbeats 4000000 in
theorem layerCovers_long (h kk : Int) (L : List Int) (v : Value) (i : Int) (w : World) (hu : Us w v L) (hl : ¬ L.length ≤ 30) :
    Calls Try.prog 4 #[.int .i64 h, .int .i64 kk, v, .int .u64 i] w fun e w' => e = .returned (.bool true) ∧ Below w.heap.size w w' := by
  obtain ⟨ao, cap, rfl, -⟩ := us_view hu
  have hB0 := Below.refl w.heap.size w
  have U0 := hu
  have hli : (30 : Int) < L.length := by omega
  clear hl hu
  have T1 := hidq trivial
  go_enter Try.func4, Try.ntmps4
  go_wp2_with (first | (go_at_call 8; clear T1; refine (live12_any _).mono ?_; rintro e w1 ⟨rfl, hb1⟩; have U1 := (U0.below hb1); clear U0; have hB1 := below_trans hB0 hb1))
  go_ret
  exact ⟨rfl, hB1⟩
set_option maxRecDepth 100000 in
set_option maxHeartbeats 4000000 in
theorem layerCovers_no (h kk : Int) (L : List Int) (v : Value) (i : Int) (w : World) (hu : Us w v L) (hl : L.length ≤ 30) (hs : (M.kB kk && M.setB h L) = false) :
    Calls Try.prog 4 #[.int .i64 h, .int .i64 kk, v, .int .u64 i] w fun e w' => e = .returned (.bool true) ∧ Below w.heap.size w w' := by
  have CA := hidq (fun W v (u : Us W v L) => lcover_any h kk L v W u)
  rw [(M.ly_no hs).1, (M.ly_no hs).2] at CA
  obtain ⟨ao, cap, rfl, -⟩ := us_view hu
  have hB0 := Below.refl w.heap.size w
  have U0 := hu
  have hli : ¬ (30 : Int) < L.length := by omega
  have T1 := hidq trivial
  have T2 := hidq trivial
  clear hl hu hs
  go_enter Try.func4, Try.ntmps4
  go_wp2_with (first | (go_at_call 8; clear T1; refine (live12_any _).mono ?_; rintro e w1 ⟨rfl, hb1⟩; have U1 := (U0.below hb1); clear U0; have hB1 := below_trans hB0 hb1) | (go_at_call 12; clear T2; refine (CA.out _ _ U1).mono ?_; rintro e w2 ⟨x, rfl, X2, hb2⟩; have U2 := (U1.below hb2); clear U1; have hB2 := below_trans hB1 hb2; obtain ⟨aX2, cX2, rfl, kX2, -, vX2⟩ := X2.form))
  go_ret
  exact ⟨rfl, hB2⟩
set_option maxRecDepth 100000 in
set_option maxHeartbeats 8000000 in
theorem layerCovers_yes (h kk : Int) (L : List Int) (v : Value) (i : Int) (w : World) (hu : Us w v L) (h0 : 0 ≤ i) (h1 : i ≤ 18446744073709551615) (hl : L.length ≤ 30) (hk : M.kB kk = true) (hs : M.setB h L = true) :
    Calls Try.prog 4 #[.int .i64 h, .int .i64 kk, v, .int .u64 i] w fun e w' => e = .returned (.bool true) ∧ Below w.heap.size w w' := by
  have CA := hidq (fun W v (u : Us W v L) => lcover_any h kk L v W u)
  have HA := hidq (fun W v (u : Us W v L) => has_any h L v i W u h0 h1)
  obtain ⟨b0, b2, b3⟩ := M.ly_bound hk hs hl
  have BN := hidq (fun W => lbound_any h kk L.length W (by omega) (by omega))
  rw [b0] at BN
  obtain ⟨s1, s2, -⟩ := M.set_of hs
  have hp32 := M.p2_32 s2
  have hpp := M.p2_pos h
  obtain ⟨a1, a2, a3, -, -, a6⟩ := M.all_facts hs
  have D := M.cvr_ly hk hs
  obtain ⟨t1, t2, t3⟩ := D.told i h0
  have q3 := D.many
  have q4 := D.each
  have HSu := hidq D.sub
  have HMa := hidq (M.ly_may hk hs)
  have HBO := hidq (fun I J (hx : M.subB h I J = true) => M.has_subq (i := i) hs hx)
  have HRi := hidq D.rise
  clear D
  rw [(M.ly_yes hk hs).1] at CA
  generalize M.lyL h kk L = C at *
  have HMn := hidq q4
  have HSum := hidq (fun k => M.Sg_part (f := M.mnN h) (X := C) (fun x hx => by have := q4 x hx; omega) k)
  have HW := hidq (fun (k : Nat) (x : Int × Int) (hk : C[k]? = some x) => M.Sg_take (f := M.mnN h) hk)
  have HH := hidq (fun (k : Nat) (x : Int × Int) (hk : C[k]? = some x) => M.Sg_take (f := M.inN h i) hk)
  have HH2 := hidq (fun (k : Nat) => show 0 ≤ M.Sg (M.inN h i) (C.take k) ∧ M.Sg (M.inN h i) (C.take k) ≤ 40000 by
    have := M.inN_len h i (C.take k)
    rw [List.length_take] at *; omega)
  have HRR := hidq (fun (q k : Nat) (x y : Int × Int) (hq : C[q]? = some x) (hk : C[k]? = some y) (hqk : q < k) => show M.ltS x y = true by
    obtain ⟨h1, rfl⟩ := List.getElem?_eq_some_iff.1 hq
    obtain ⟨h2, rfl⟩ := List.getElem?_eq_some_iff.1 hk
    exact List.pairwise_iff_getElem.1 HRi.out q k h1 h2 hqk)
  have HE1 := hidq (show M.Sg (M.mnN h) (C.take C.length) = M.p2 h - L.length by rw [List.take_length]; omega)
  have HE0 := hidq (show M.Sg (M.mnN h) C ≤ 4294967296 by omega)
  have HE2 := hidq (show 0 ≤ M.Sg (M.inN h i) (C.take C.length) ∧ M.Sg (M.inN h i) (C.take C.length) ≤ 1 ∧ (M.fndE h L i = 0 → M.Sg (M.inN h i) (C.take C.length) = if i ∈ L then 0 else 1) by rw [List.take_length]; exact ⟨t1, t2, t3⟩)
  obtain ⟨G, hG⟩ : ∃ G, M.gapsL 0 (M.p2 h - 1) L = G := ⟨_, rfl⟩
  rw [hG] at a1 a2 a3 a6
  have HGG := hidq hG
  have HGE := hidq a1
  have HGV := hidq (show M.manyV h G = M.p2 h - L.length by omega)
  have HGF := hidq (show ∀ x ∈ G, 0 ≤ x.1 ∧ x.1 ≤ 18446744073709551615 ∧ 0 ≤ x.2 ∧ x.2 ≤ 18446744073709551615 from fun x hx => by have := a6 x hx; omega)
  have HFH := hidq (fun (hf : M.fndE h L i = 0) => show M.hasV h L i = M.has L i by unfold M.hasV; rw [hf]; simp)
  obtain ⟨V, hV⟩ : ∃ V, M.lbV h kk L.length = V := ⟨_, rfl⟩
  rw [hV] at BN b2 b3
  obtain ⟨ao, cap, rfl, -⟩ := us_view hu
  have hB0 := Below.refl w.heap.size w
  have U0 := hu
  have hli : ¬ (30 : Int) < L.length := by omega
  have T1 := hidq trivial
  have T2 := hidq trivial
  have T3 := hidq trivial
  have HS := hidq hs
  have hVn : ¬ V < (C.length : Int) := by omega
  have hwl : IntKind.u64.wrap (C.length : Int) = C.length := M.wrapu_id (by omega) (by omega)
  have HCl := hidq (show C.length ≤ 40000 by omega)
  clear hu hs hl hk q3 q4 t1 t2 t3 a1 a2 a3 a6 hG hV b0 b2 b3
  go_enter Try.func4, Try.ntmps4
  go_wp2_with (first | (go_at_call 8; clear T1; refine (live12_any _).mono ?_; rintro e w1 ⟨rfl, hb1⟩; have U1 := (U0.below hb1); clear U0; have hB1 := below_trans hB0 hb1) | (go_at_call 12; clear T2; refine (CA.out _ _ U1).mono ?_; rintro e w2 ⟨x, rfl, X2, hb2⟩; have U2 := (U1.below hb2); clear U1; have hB2 := below_trans hB1 hb2; obtain ⟨aX2, cX2, rfl, kX2, -, vX2⟩ := X2.form) | (go_at_call 13; refine (BN.out _).mono ?_; rintro e w3 ⟨rfl, hb3⟩; have U3 := (U2.below hb3); have X3 := (X2.below hb3); clear U2 X2; have hB3 := below_trans hB2 hb3) | (go_at_call 14; refine (HA.out _ _ U3).mono ?_; rintro e w5 ⟨rfl, hb5⟩; have U5 := (U3.below hb5); have X5 := (X3.below hb5); clear U3 X3; have hB5 := hidq (below_trans hB3 hb5)))
  generalize hN : C.length = N at *
  have HN := hidq hN
  have hN8 := HCl.out
  clear hN hwl hVn
  obtain ⟨fE, hfE⟩ : ∃ fE, M.fndE h L i = fE := ⟨_, rfl⟩
  obtain ⟨hV, hhV⟩ : ∃ hV, M.hasV h L i = hV := ⟨_, rfl⟩
  rw [hfE] at HBO HE2 HFH ⊢
  rw [hhV] at HFH ⊢
  clear hfE hhV
  go_loopw [78, 14, 17] (fun a b c wr => ∃ (j : Nat), j ≤ N ∧ a = .int .i64 j ∧ b = .int .i64 (M.Sg (M.inN h i) (C.take j)) ∧ c = .int .u64 (M.Sg (M.mnN h) (C.take j)) ∧ Below w5.heap.size w5 wr) (fun a _ _ _ => N - (intOf a).toNat)
  case atStart => exact ⟨0, by omega, rfl, rfl, rfl, Below.refl _ _⟩
  case round =>
    obtain ⟨j, hj, rfl, rfl, rfl, hb⟩ := hrel
    obtain ⟨wz, hwz⟩ : ∃ wz, wz = wr := ⟨_, rfl⟩
    subst hwz
    have BX := hidq hb
    by_cases hjn : j < N
    · have hji : (j : Int) < N := by omega
      obtain ⟨bF, oF, rfl⟩ := vX2 (by omega)
      have HJL := hidq (show j < C.length by rw [HN.out]; exact hjn)
      obtain ⟨s, hsj⟩ : ∃ s, C[j]? = some s := ⟨_, List.getElem?_eq_getElem HJL.out⟩
      obtain ⟨x1, x2⟩ := Ss.at (X5.below hb) hsj
      have hm := List.mem_of_getElem? hsj
      have HRj := hidq (fun q t (hq : C[q]? = some t) (hqj : q < j) => HRR.out q j t s hq hsj hqj)
      have p1 := HH.out j s hsj
      have p2 := HH2.out j
      have p3 := HW.out j s hsj
      have p4 := HSum.out j
      have p5 := HSum.out (j + 1)
      have hE0 := HE0.out
      obtain ⟨m1, m2, m3⟩ := HMn.out s hm
      obtain ⟨y1, y2⟩ := HMa.out s hm
      have hsb := HSu.out s hm
      obtain ⟨hy0, hy1, hd0, hd1⟩ := M.sub_fit hsb
      obtain ⟨y, d⟩ := s
      dsimp only at x1 x2 HRj m1 m2 m3 y1 y2 hsb hy0 hy1 hd0 hd1
      obtain ⟨eH, eV⟩ := HBO.out y d hsb
      have HSC := hidq (fun W => has8_any h y d i W hy0 hy1 hd0 hd1 h0 h1)
      rw [eH, eV] at HSC
      have MY := hidq (fun W => lmay_any h kk y d W hy0 hy1 hd0 hd1)
      rw [y1, y2] at MY
      have LC := hidq (fun W => leaves8_all h y d W hy0 hy1 hd0 hd1)
      rw [M.lvA_yes hsb, M.subE_yes hsb] at LC
      have MC := hidq (fun W v (u : Ps W v (M.lvs h y d)) => many_any h _ v W u)
      obtain ⟨mm, hmm⟩ : ∃ mm, M.mnN h (y, d) = mm := ⟨_, rfl⟩
      rw [m1, show M.manyV h (M.lvs h y d) = mm from hmm] at MC
      rw [hmm] at m2 m3 p3
      have hin : M.inN h i (y, d) = if M.inS (M.lvs h y d) i = true then 1 else 0 := rfl
      rw [hin] at p1
      generalize M.inS (M.lvs h y d) i = r at *
      generalize M.lvs h y d = S at *
      obtain ⟨A0, hA0⟩ : ∃ A0, M.Sg (M.inN h i) (C.take j) = A0 := ⟨_, rfl⟩
      obtain ⟨A1, hA1⟩ : ∃ A1, M.Sg (M.inN h i) (C.take (j + 1)) = A1 := ⟨_, rfl⟩
      obtain ⟨M0, hM0⟩ : ∃ M0, M.Sg (M.mnN h) (C.take j) = M0 := ⟨_, rfl⟩
      obtain ⟨M1, hM1⟩ : ∃ M1, M.Sg (M.mnN h) (C.take (j + 1)) = M1 := ⟨_, rfl⟩
      rw [hA0] at p1 p2 ⊢
      rw [hA1] at p1
      rw [hM0] at p3 p4 ⊢
      rw [hM1] at p3 p5
      have hw5 : IntKind.u64.wrap (M0 + mm) = M1 := by rw [M.wrapu_id (by omega) (by omega)]; omega
      have HA1 := hidq hA1
      have HM1 := hidq hM1
      have SX := hidq (Bi.new wz 27 y d)
      obtain ⟨SXa, SXb⟩ := SX.out.facts
      have RX := hidq (below_one (o := (.cells #[.int .u64 y, .int .u64 d] 27)) (Below.refl wz.heap.size wz))
      have XR := hidq (X5.below hb)
      clear hm hA0 hA1 hM0 hM1 hb eH eV p3 p4 p5 hE0 hsb m1 m2 m3 y1 y2 hmm hin hsj
      by_cases hj0 : ¬ (0 : Int) < j
      · have hjd : decide ((0 : Int) < (j : Int)) = false := decide_eq_false hj0
        have hjd3 : decide (0 < j) = false := decide_eq_false (by omega)
        cases r with
        | true =>
          have hw4 : IntKind.i64.wrap (A0 + 1) = A0 + 1 := by rw [IntKind.wrap_i64]; omega
          go_wp2_with (first | (go_at_call 15; refine (HSC.out _).mono ?_; rintro e w6 ⟨rfl, hb6⟩; have S6 := (SX.out.below hb6); obtain ⟨S6a, S6b⟩ := S6.facts; have R6 := hidq (below_trans RX.out hb6); clear hb6) | (go_at_call 16; refine (MY.out _).mono ?_; rintro e w7 ⟨rfl, hb7⟩; have S7 := (S6.below hb7); obtain ⟨S7a, S7b⟩ := S7.facts; have R7 := hidq (below_trans R6.out hb7); clear hb7 S6 S6a S6b) | (go_at_call 17; refine (LC.out _).mono ?_; rintro e w8 ⟨a8, c8, rfl, p8, hb8⟩; have S8 := (S7.below hb8); obtain ⟨S8a, S8b⟩ := S8.facts; have R8 := hidq (below_trans R7.out hb8); have P8 := hidq p8; clear hb8 p8 S7 S7a S7b) | (go_at_call 18; clear T3; refine (MC.out _ _ P8.out).mono ?_; rintro e w9 ⟨rfl, hb9⟩; have S9 := hidq (S8.below hb9); have R9 := hidq (below_trans R8.out hb9); have X9 := hidq (XR.out.below R9.out); clear hb9 S8 S8a S8b))
          obtain ⟨G', HG, HFc, HOc, HW, ne⟩ := clq_of wz w9 (fun X' => Bi X' wz.heap.size 27 y d ∧ Ss X' (.slice (some ⟨bF, oF, none⟩) N cX2) C) (fun _ _ h hb => ⟨h.1.below hb, h.2.below hb⟩) ⟨S9.out, X9.out⟩ R9.out
          have h1c := fun c : Clq G' => (HFc.out c).1.facts.1
          have h2c := fun c : Clq G' => (HFc.out c).1.facts.2
          refine regionq (by kernel_rfl) (by kernel_rfl) HW.out ?_
          repeat (go_big_quiet_step (first | (go_at_call 11; exact quietq HG.out _ (LS.out _))))
          refine wpQuiet_nil ?_
          rintro _ ⟨s9, rfl⟩
          have Q9 := hidq (HOc.out s9)
          generalize s9.W = W9 at *
          clear h1c h2c
          go_wp2
          go_roundw
          case rel => exact ⟨j + 1, by omega, by go_num, by rw [HA1.out, p1]; rfl, by rw [HM1.out], below_trans BX.out Q9.out⟩
          case measure => simp [intOf]; omega
        | false =>
          go_wp2_with (first | (go_at_call 15; refine (HSC.out _).mono ?_; rintro e w6 ⟨rfl, hb6⟩; have S6 := (SX.out.below hb6); obtain ⟨S6a, S6b⟩ := S6.facts; have R6 := hidq (below_trans RX.out hb6); clear hb6) | (go_at_call 16; refine (MY.out _).mono ?_; rintro e w7 ⟨rfl, hb7⟩; have S7 := (S6.below hb7); obtain ⟨S7a, S7b⟩ := S7.facts; have R7 := hidq (below_trans R6.out hb7); clear hb7 S6 S6a S6b) | (go_at_call 17; refine (LC.out _).mono ?_; rintro e w8 ⟨a8, c8, rfl, p8, hb8⟩; have S8 := (S7.below hb8); obtain ⟨S8a, S8b⟩ := S8.facts; have R8 := hidq (below_trans R7.out hb8); have P8 := hidq p8; clear hb8 p8 S7 S7a S7b) | (go_at_call 18; clear T3; refine (MC.out _ _ P8.out).mono ?_; rintro e w9 ⟨rfl, hb9⟩; have S9 := hidq (S8.below hb9); have R9 := hidq (below_trans R8.out hb9); have X9 := hidq (XR.out.below R9.out); clear hb9 S8 S8a S8b))
          obtain ⟨G', HG, HFc, HOc, HW, ne⟩ := clq_of wz w9 (fun X' => Bi X' wz.heap.size 27 y d ∧ Ss X' (.slice (some ⟨bF, oF, none⟩) N cX2) C) (fun _ _ h hb => ⟨h.1.below hb, h.2.below hb⟩) ⟨S9.out, X9.out⟩ R9.out
          have h1c := fun c : Clq G' => (HFc.out c).1.facts.1
          have h2c := fun c : Clq G' => (HFc.out c).1.facts.2
          refine regionq (by kernel_rfl) (by kernel_rfl) HW.out ?_
          repeat (go_big_quiet_step (first | (go_at_call 11; exact quietq HG.out _ (LS.out _))))
          refine wpQuiet_nil ?_
          rintro _ ⟨s9, rfl⟩
          have Q9 := hidq (HOc.out s9)
          generalize s9.W = W9 at *
          clear h1c h2c
          go_wp2
          go_roundw
          case rel => exact ⟨j + 1, by omega, by go_num, by rw [HA1.out, p1]; simp, by rw [HM1.out], below_trans BX.out Q9.out⟩
          case measure => simp [intOf]; omega
      · obtain ⟨k, hk⟩ : ∃ k, j = k + 1 := ⟨j - 1, by omega⟩
        have hjg : (0 : Int) < j := by omega
        have hjg2 : 0 < j := by omega
        have hjk : (j : Int) - 1 = k := by omega
        have hkt : ((k : Int)).toNat = k := rfl
        have hkl : (k : Int) < N := by omega
        have hkw : IntKind.i64.wrap (j - 1 : Int) = k := by rw [IntKind.wrap_i64]; omega
        obtain ⟨t, hyk⟩ : ∃ t, C[k]? = some t := ⟨_, List.getElem?_eq_getElem (by have := HJL.out; omega)⟩
        have hlt := HRj.out k t hyk (by omega)
        obtain ⟨g1, g2, g5, g6⟩ := M.sub_fit (HSu.out t (List.mem_of_getElem? hyk))
        obtain ⟨z, e⟩ := t
        dsimp only at g1 g2 g5 g6
        have LS := hidq (fun W => less8_any z e y d W ⟨g1, g2⟩ ⟨g5, g6⟩ ⟨hy0, hy1⟩ ⟨hd0, hd1⟩)
        rw [show M.lssB z e y d = true from hlt] at LS
        clear hj0 hk hlt g1 g2 g5 g6
        cases r with
        | true =>
          have hw4 : IntKind.i64.wrap (A0 + 1) = A0 + 1 := by rw [IntKind.wrap_i64]; omega
          go_wp2_with (first | (go_at_call 15; refine (HSC.out _).mono ?_; rintro e w6 ⟨rfl, hb6⟩; have S6 := (SX.out.below hb6); obtain ⟨S6a, S6b⟩ := S6.facts; have R6 := hidq (below_trans RX.out hb6); clear hb6) | (go_at_call 16; refine (MY.out _).mono ?_; rintro e w7 ⟨rfl, hb7⟩; have S7 := (S6.below hb7); obtain ⟨S7a, S7b⟩ := S7.facts; have R7 := hidq (below_trans R6.out hb7); clear hb7 S6 S6a S6b) | (go_at_call 17; refine (LC.out _).mono ?_; rintro e w8 ⟨a8, c8, rfl, p8, hb8⟩; have S8 := (S7.below hb8); obtain ⟨S8a, S8b⟩ := S8.facts; have R8 := hidq (below_trans R7.out hb8); have P8 := hidq p8; clear hb8 p8 S7 S7a S7b) | (go_at_call 18; clear T3; refine (MC.out _ _ P8.out).mono ?_; rintro e w9 ⟨rfl, hb9⟩; have S9 := hidq (S8.below hb9); have R9 := hidq (below_trans R8.out hb9); have X9 := hidq (XR.out.below R9.out); clear hb9 S8 S8a S8b))
          obtain ⟨G', HG, HFc, HOc, HW, ne⟩ := clq_of wz w9 (fun X' => Bi X' wz.heap.size 27 y d ∧ Ss X' (.slice (some ⟨bF, oF, none⟩) N cX2) C) (fun _ _ h hb => ⟨h.1.below hb, h.2.below hb⟩) ⟨S9.out, X9.out⟩ R9.out
          have h1c := fun c : Clq G' => (HFc.out c).1.facts.1
          have h2c := fun c : Clq G' => (HFc.out c).1.facts.2
          have h3c := fun c : Clq G' => (Ss.at (HFc.out c).2 hyk).1
          have h4c := fun c : Clq G' => (Ss.at (HFc.out c).2 hyk).2
          dsimp only at h3c h4c
          refine regionq (by kernel_rfl) (by kernel_rfl) HW.out ?_
          repeat (go_big_quiet_step (first | (go_at_call 11; exact quietq HG.out _ (LS.out _))))
          refine wpQuiet_nil ?_
          rintro _ ⟨s9, rfl⟩
          have Q9 := hidq (HOc.out s9)
          generalize s9.W = W9 at *
          clear h1c h2c h3c h4c
          go_wp2
          go_roundw
          case rel => exact ⟨j + 1, by omega, by go_num, by rw [HA1.out, p1]; rfl, by rw [HM1.out], below_trans BX.out Q9.out⟩
          case measure => simp [intOf]; omega
        | false =>
          go_wp2_with (first | (go_at_call 15; refine (HSC.out _).mono ?_; rintro e w6 ⟨rfl, hb6⟩; have S6 := (SX.out.below hb6); obtain ⟨S6a, S6b⟩ := S6.facts; have R6 := hidq (below_trans RX.out hb6); clear hb6) | (go_at_call 16; refine (MY.out _).mono ?_; rintro e w7 ⟨rfl, hb7⟩; have S7 := (S6.below hb7); obtain ⟨S7a, S7b⟩ := S7.facts; have R7 := hidq (below_trans R6.out hb7); clear hb7 S6 S6a S6b) | (go_at_call 17; refine (LC.out _).mono ?_; rintro e w8 ⟨a8, c8, rfl, p8, hb8⟩; have S8 := (S7.below hb8); obtain ⟨S8a, S8b⟩ := S8.facts; have R8 := hidq (below_trans R7.out hb8); have P8 := hidq p8; clear hb8 p8 S7 S7a S7b) | (go_at_call 18; clear T3; refine (MC.out _ _ P8.out).mono ?_; rintro e w9 ⟨rfl, hb9⟩; have S9 := hidq (S8.below hb9); have R9 := hidq (below_trans R8.out hb9); have X9 := hidq (XR.out.below R9.out); clear hb9 S8 S8a S8b))
          obtain ⟨G', HG, HFc, HOc, HW, ne⟩ := clq_of wz w9 (fun X' => Bi X' wz.heap.size 27 y d ∧ Ss X' (.slice (some ⟨bF, oF, none⟩) N cX2) C) (fun _ _ h hb => ⟨h.1.below hb, h.2.below hb⟩) ⟨S9.out, X9.out⟩ R9.out
          have h1c := fun c : Clq G' => (HFc.out c).1.facts.1
          have h2c := fun c : Clq G' => (HFc.out c).1.facts.2
          have h3c := fun c : Clq G' => (Ss.at (HFc.out c).2 hyk).1
          have h4c := fun c : Clq G' => (Ss.at (HFc.out c).2 hyk).2
          dsimp only at h3c h4c
          refine regionq (by kernel_rfl) (by kernel_rfl) HW.out ?_
          repeat (go_big_quiet_step (first | (go_at_call 11; exact quietq HG.out _ (LS.out _))))
          refine wpQuiet_nil ?_
          rintro _ ⟨s9, rfl⟩
          have Q9 := hidq (HOc.out s9)
          generalize s9.W = W9 at *
          clear h1c h2c h3c h4c
          go_wp2
          go_roundw
          case rel => exact ⟨j + 1, by omega, by go_num, by rw [HA1.out, p1]; simp, by rw [HM1.out], below_trans BX.out Q9.out⟩
          case measure => simp [intOf]; omega
    · obtain rfl : j = N := by omega
      have hji : ¬ (j : Int) < j := by omega
      obtain ⟨c1, c2, c3⟩ := HE2.out
      obtain ⟨Cn, hCn⟩ : ∃ Cn, M.Sg (M.inN h i) (C.take j) = Cn := ⟨_, rfl⟩
      have e1 := HE1.out
      rw [hCn] at c1 c2 c3 ⊢
      rw [e1]
      clear hb hCn e1
      by_cases hf : fE = 0
      · have hh := HFH.out hf
        have c4 := c3 hf
        by_cases hm : i ∈ L
        · rw [if_pos hm] at c4
          rw [M.has_iff.2 hm] at hh
          subst hh hf c4
          clear c1 c2 c3 hm
          go_wp2_with (first | (go_at_call 19; refine (gaps_yes h L _ _ (U5.below BX.out) HS.out).mono ?_; rw [HGG.out]; rintro e w10 ⟨v10, rfl, ho10, hb10⟩; have P10 := Ps.of_own ho10 HGF.out; obtain ⟨a10, c10, rfl, -⟩ := P10.form; have B10 := hidq (below_trans BX.out hb10); clear ho10 hb10) | (go_at_call 18; refine (many_any h G _ _ P10).mono ?_; rw [HGE.out, HGV.out]; rintro e w11 ⟨rfl, hb11⟩; have B11 := hidq (below_trans B10.out hb11); clear hb11))
          go_ret
          exact ⟨rfl, below_trans hB5.out B11.out⟩
        · rw [if_neg hm] at c4
          rw [M.hasnt_iff.2 hm] at hh
          subst hh hf c4
          clear c1 c2 c3 hm
          go_wp2_with (first | (go_at_call 19; refine (gaps_yes h L _ _ (U5.below BX.out) HS.out).mono ?_; rw [HGG.out]; rintro e w10 ⟨v10, rfl, ho10, hb10⟩; have P10 := Ps.of_own ho10 HGF.out; obtain ⟨a10, c10, rfl, -⟩ := P10.form; have B10 := hidq (below_trans BX.out hb10); clear ho10 hb10) | (go_at_call 18; refine (many_any h G _ _ P10).mono ?_; rw [HGE.out, HGV.out]; rintro e w11 ⟨rfl, hb11⟩; have B11 := hidq (below_trans B10.out hb11); clear hb11))
          go_ret
          exact ⟨rfl, below_trans hB5.out B11.out⟩
      · have hfb : (fE == 0) = false := by rw [beq_eq_false_iff_ne]; exact hf
        have c5 : ¬ 1 < Cn := by omega
        clear c1 c2 c3
        go_wp2_with (first | (go_at_call 19; refine (gaps_yes h L _ _ (U5.below BX.out) HS.out).mono ?_; rw [HGG.out]; rintro e w10 ⟨v10, rfl, ho10, hb10⟩; have P10 := Ps.of_own ho10 HGF.out; obtain ⟨a10, c10, rfl, -⟩ := P10.form; have B10 := hidq (below_trans BX.out hb10); clear ho10 hb10) | (go_at_call 18; refine (many_any h G _ _ P10).mono ?_; rw [HGE.out, HGV.out]; rintro e w11 ⟨rfl, hb11⟩; have B11 := hidq (below_trans B10.out hb11); clear hb11))
        go_ret
        exact ⟨rfl, below_trans hB5.out B11.out⟩
set_option maxRecDepth 100000 in
theorem layerCovers_walk (h kk : Int) (L : List Int) (v : Value) (i : Int) (w : World) (_ : -9223372036854775808 ≤ h) (_ : h ≤ 9223372036854775807) (_ : -9223372036854775808 ≤ kk) (_ : kk ≤ 9223372036854775807) (hu : Us w v L) (h0 : 0 ≤ i) (h1 : i ≤ 18446744073709551615) :
    Calls Try.prog 4 #[.int .i64 h, .int .i64 kk, v, .int .u64 i] w fun e w' => e = .returned (.bool true) ∧ Below w.heap.size w w' := by
  by_cases hl : L.length ≤ 30
  · cases hs : (M.kB kk && M.setB h L) with
    | true =>
      rw [Bool.and_eq_true] at hs
      exact layerCovers_yes h kk L v i w hu h0 h1 hl hs.1 hs.2
    | false => exact layerCovers_no h kk L v i w hu hl hs
  · exact layerCovers_long h kk L v i w hu hl
end Go.Proofs.Ytmicgojojkkkhaa
