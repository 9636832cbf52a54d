/-
  The law LayerParts returns true at every input: useful ones are at most twice as many as differences, no fewer, and each lies in just one of these; where all differences are useful they are these. Conditions: the slice holds numbers, the numbers fit their kinds.
-/
import Derived.Test.YtmicgojojkkkhaaZTR
import Derived.Test.YtmicgojojkkkhaaZX6
import Derived.Test.YtmicgojojkkkhaaZXD1
namespace Go.Proofs.Ytmicgojojkkkhaa
open Go.RowKit
theorem Ps.ptry {W : World} {ao : Option Addr} {n cap : Nat} {S : List (Int × Int)} (h : Ps W (.slice ao n cap) S) : 0 < n → ∃ b off, ao = some ⟨b, off, none⟩ := by
  obtain ⟨a, c, e, h2, _, _, h5⟩ := h
  cases e
  exact fun h0 => by obtain ⟨b, off, h6, _⟩ := h5 (by omega); exact ⟨b, off, h6⟩
set_option maxRecDepth 100000 in
set_option maxHeartbeats 1000000 in
theorem rsameS_len (A B : List (Int × Int)) (v1 v2 : Value) (w : World) (u1 : Ss w v1 A) (u2 : Ss w v2 B) (hl : A.length ≠ B.length) :
    Calls Try.prog 10 #[v1, v2] w fun e w' => e = .returned (.bool false) ∧ Below w.heap.size w w' := by
  obtain ⟨a1, c1, rfl, -⟩ := u1.form
  obtain ⟨a2, c2, rfl, -⟩ := u2.form
  have h1 : ¬ (A.length : Int) = B.length := by omega
  have h2 : ((A.length : Int) == B.length) = false := by rw [beq_eq_false_iff_ne]; exact h1
  clear u1 u2 hl
  generalize A.length = n at *
  generalize B.length = m at *
  go_enter Try.func10, Try.ntmps10
  go_wp2
  go_ret
  exact ⟨rfl, Below.refl _ _⟩
theorem M.sub_fitq {h I J : Int} (hs : M.subB h I J = true) : 0 ≤ I ∧ I ≤ 18446744073709551615 ∧ 0 ≤ J ∧ J ≤ 18446744073709551615 := by
  have hI := (M.sub_of hs).1
  have k1 := (M.ok_of hI).2.2.1
  have k2 := M.ok_lt hI
  by_cases hJ : J = 0
  · omega
  · have hK := (M.sub_in hs hJ).1
    have j1 := (M.ok_of hK).2.2.1
    have j2 := M.ok_lt hK
    omega
theorem M.all_takeq {C : List (Int × Int)} {f : Int × Int → Bool} {k : Nat} {x : Int × Int} (hk : C[k]? = some x) : (C.take (k + 1)).all f = ((C.take k).all f && f x) := by
  rw [List.take_add_one, hk, List.all_append]; simp
set_option maxRecDepth 100000 in
set_option maxHeartbeats 4000000 in
theorem layerParts_long (h : Int) (L : List Int) (v : Value) (w : World) (hu : Us w v L) (hl : ¬ L.length ≤ 30) :
    Calls Try.prog 5 #[.int .i64 h, v] w fun e w' => e = .returned (.bool true) ∧ Below w.heap.size w w' := by
  obtain ⟨ao, cap, rfl, -⟩ := us_view hu
  have hB0 := Below.refl w.heap.size w
  have U0 := hu
  have hli : (30 : Int) < L.length := by omega
  clear hl hu
  have T1 := hidq trivial
  go_enter Try.func5, Try.ntmps5
  go_wp2_with (first | (go_at_call 8; clear T1; refine (live12_any _).mono ?_; rintro e w1 ⟨rfl, hb1⟩; have U1 := (U0.below hb1); clear U0; have hB1 := below_trans hB0 hb1))
  go_ret
  exact ⟨rfl, hB1⟩
set_option maxRecDepth 100000 in
set_option maxHeartbeats 4000000 in
theorem layerParts_no (h : Int) (L : List Int) (v : Value) (w : World) (hu : Us w v L) (hl : L.length ≤ 30) (hs : M.setB h L = false) :
    Calls Try.prog 5 #[.int .i64 h, v] w fun e w' => e = .returned (.bool true) ∧ Below w.heap.size w w' := by
  have CD := hidq (fun W v (u : Us W v L) => lcover_any h 2 L v W u)
  have CU := hidq (fun W v (u : Us W v L) => lcover_any h 3 L v W u)
  have n2 := M.ly_no (h := h) (k := 2) (L := L) (by rw [hs, Bool.and_false])
  have n3 := M.ly_no (h := h) (k := 3) (L := L) (by rw [hs, Bool.and_false])
  rw [n2.1, n2.2] at CD
  rw [n3.1, n3.2] at CU
  obtain ⟨ao, cap, rfl, -⟩ := us_view hu
  have hB0 := Below.refl w.heap.size w
  have U0 := hu
  have hli : ¬ (30 : Int) < L.length := by omega
  have T1 := hidq trivial
  have T2 := hidq trivial
  clear hl hu hs n2 n3
  go_enter Try.func5, Try.ntmps5
  go_wp2_with (first | (go_at_call 8; clear T1; refine (live12_any _).mono ?_; rintro e w1 ⟨rfl, hb1⟩; have U1 := (U0.below hb1); clear U0; have hB1 := below_trans hB0 hb1) | (go_at_call 12; clear T2; refine (CD.out _ _ U1).mono ?_; rintro e w2 ⟨x, rfl, X2, hb2⟩; have U2 := (U1.below hb2); clear U1; have hB2 := (below_trans hB1 hb2); obtain ⟨aX2, cX2, rfl, kX2, -, vX2⟩ := X2.form) | (go_at_call 12; refine (CU.out _ _ U2).mono ?_; rintro e w3 ⟨x, rfl, Y3, hb3⟩; have X3 := X2.below hb3; clear U2 X2; have hB3 := hidq (below_trans hB2 hb3); obtain ⟨aY3, cY3, rfl, kY3, -, vY3⟩ := Y3.form))
  go_ret
  exact ⟨rfl, hB3.out⟩
set_option maxRecDepth 100000 in
set_option maxHeartbeats 8000000 in
theorem layerParts_yes (h : Int) (L : List Int) (v : Value) (w : World) (hu : Us w v L) (hl : L.length ≤ 30) (hs : M.setB h L = true) :
    Calls Try.prog 5 #[.int .i64 h, v] w fun e w' => e = .returned (.bool true) ∧ Below w.heap.size w w' := by
  have CD := hidq (fun W v (u : Us W v L) => lcover_any h 2 L v W u)
  have CU := hidq (fun W v (u : Us W v L) => lcover_any h 3 L v W u)
  have y2 := M.ly_yes (h := h) (k := 2) (L := L) rfl hs
  have y3 := M.ly_yes (h := h) (k := 3) (L := L) rfl hs
  rw [y2.1, show M.lyL h 2 L = M.dfL h L from y2.2] at CD
  rw [y3.1, show M.lyL h 3 L = M.ldL h L from y3.2] at CU
  have HSd := hidq (M.dfL_sub hs)
  have HSu := hidq (fun u (hu : u ∈ M.ldL h L) => (M.ldL_use hs u hu).1)
  have HWi := hidq (M.ldL_within hs)
  obtain ⟨f1, f2⟩ := M.ldL_len (h := h) (L := L) hs
  obtain ⟨g1, g2⟩ := M.ldL_all (h := h) (L := L) hs
  have HCl := hidq (M.dfL_small hs)
  obtain ⟨s1, s2, -⟩ := M.set_of hs
  have HLf := hidq (fun i (hi : i < M.p2 h) => M.leafE_yes s1 s2 hi)
  have hp32 := M.p2_32 s2
  generalize M.dfL h L = C at *
  generalize M.ldL h L = Y at *
  have HAll := hidq (fun (k : Nat) (x : Int × Int) (hk : C[k]? = some x) => M.all_takeq (f := fun s => M.useB h s.1 s.2) hk)
  have SM := hidq (fun W v1 v2 (u1 : Ss W v1 Y) (u2 : Ss W v2 C) => show Calls Try.prog 10 #[v1, v2] W fun e w' => e = .returned (.bool (C.all fun s => M.useB h s.1 s.2)) ∧ Below W.heap.size W w' by
    cases ha : C.all fun s => M.useB h s.1 s.2 with
    | true => rw [g1 ha] at u1; exact rsameS_yes C v1 v2 W u1 u2
    | false => exact rsameS_len Y C v1 v2 W u1 u2 (by have := g2 ha; omega))
  have hw2 : IntKind.i64.wrap (2 * (C.length : Int)) = 2 * C.length := by rw [IntKind.wrap_i64]; have := HCl.out; omega
  have hf1 : ¬ (Y.length : Int) < C.length := by omega
  have hf1n : ¬ Y.length < C.length := by omega
  have hf2n : (decide (2 * (C.length : Int) < Y.length)) = false := by rw [decide_eq_false_iff_not]; omega
  have hf2 : ¬ 2 * (C.length : Int) < Y.length := by omega
  have hYl : Y.length ≤ 4096 := by have := HCl.out; omega
  have HYl := hidq hYl
  obtain ⟨ao, cap, rfl, -⟩ := us_view hu
  have hB0 := Below.refl w.heap.size w
  have U0 := hu
  have hli : ¬ (30 : Int) < L.length := by omega
  have T1 := hidq trivial
  have T2 := hidq trivial
  clear hu hs hl y2 y3 f1 f2 g1 g2 hYl
  go_enter Try.func5, Try.ntmps5
  go_wp2_with (first | (go_at_call 8; clear T1; refine (live12_any _).mono ?_; rintro e w1 ⟨rfl, hb1⟩; have U1 := (U0.below hb1); clear U0; have hB1 := below_trans hB0 hb1) | (go_at_call 12; clear T2; refine (CD.out _ _ U1).mono ?_; rintro e w2 ⟨x, rfl, X2, hb2⟩; have U2 := (U1.below hb2); clear U1; have hB2 := (below_trans hB1 hb2); obtain ⟨aX2, cX2, rfl, kX2, -, vX2⟩ := X2.form) | (go_at_call 12; refine (CU.out _ _ U2).mono ?_; rintro e w3 ⟨x, rfl, Y3, hb3⟩; have X3 := X2.below hb3; clear U2 X2; have hB3 := hidq (below_trans hB2 hb3); obtain ⟨aY3, cY3, rfl, kY3, -, vY3⟩ := Y3.form))
  have XW := hidq X3
  have YW := hidq Y3
  generalize hN : C.length = N at *
  generalize hK : Y.length = K at *
  have HN := hidq hN
  have HK := hidq hK
  clear hN hK hw2 hf1 hf1n hf2 hf2n X3 Y3
  obtain ⟨AL, hAL⟩ : ∃ AL : Nat → Bool, ∀ k, AL k = (C.take k).all fun s => M.useB h s.1 s.2 := ⟨_, fun _ => rfl⟩
  have HA0 := hidq (show AL 0 = true by rw [hAL]; rfl)
  have HAN := hidq (show (C.all fun s => M.useB h s.1 s.2) = AL N by rw [hAL, List.take_of_length_le (Nat.le_of_eq HN.out)])
  have HAk := hidq (fun k x (hk : C[k]? = some x) => show AL (k + 1) = (AL k && M.useB h x.1 x.2) by rw [hAL, hAL]; exact HAll.out k x hk)
  rw [HAN.out] at SM
  clear hAL
  go_loopw [68, 10] (fun a b wr => ∃ (j : Nat), j ≤ N ∧ a = .int .i64 j ∧ b = .bool (AL j) ∧ Below w3.heap.size w3 wr) (fun a _ _ => N - (intOf a).toNat)
  case atStart => exact ⟨0, by omega, rfl, by rw [HA0.out], Below.refl _ _⟩
  case round =>
    obtain ⟨j, hj, rfl, rfl, hb⟩ := hrel
    have BX := hidq hb
    have hN8 := HCl.out
    by_cases hjn : j < N
    · have hji : (j : Int) < N := by omega
      obtain ⟨bF, oF, rfl⟩ := vX2 (by omega)
      obtain ⟨s, hsj⟩ : ∃ s, C[j]? = some s := ⟨_, List.getElem?_eq_getElem (by rw [HN.out]; exact hjn)⟩
      obtain ⟨x1, x2⟩ := Ss.at (XW.out.below hb) hsj
      have hsb := HSd.out s (List.mem_of_getElem? hsj)
      obtain ⟨b1, b2, b3, b4⟩ := M.sub_fitq hsb
      have hak := HAk.out j s hsj
      obtain ⟨y, d⟩ := s
      dsimp only at x1 x2 hsb b1 b2 b3 b4 hak
      have UC := hidq (fun W => useful_any h y d W b1 b2 b3 b4)
      rw [M.subE_yes hsb, show M.useV h y d = M.useB h y d by unfold M.useV; rw [hsb]; rfl] at UC
      generalize M.useB h y d = r at *
      have HAk2 := hidq hak
      have SX := Bi.new wr 27 y d
      obtain ⟨SXa, SXb⟩ := SX.facts
      clear hsj hsb hak hb SX
      obtain ⟨A0, hA0⟩ : ∃ A0, AL j = A0 := ⟨_, rfl⟩
      rw [hA0] at HAk2 ⊢
      clear hA0
      cases A0 with
      | true =>
        go_wp2_with (first | (go_at_call 20; refine (UC.out _).mono ?_; rintro e w4 ⟨rfl, hb4⟩; have B4 := hidq (below_trans (below_one (o := (.cells #[.int .u64 y, .int .u64 d] 27)) BX.out) hb4); clear hb4))
        go_roundw
        case rel => exact ⟨j + 1, by omega, by go_num, by rw [HAk2.out]; rfl, B4.out⟩
        case measure => simp [intOf]; omega
      | false =>
        go_wp2_with (first | (go_at_call 20; refine (UC.out _).mono ?_; rintro e w4 ⟨rfl, hb4⟩; have B4 := hidq (below_trans (below_one (o := (.cells #[.int .u64 y, .int .u64 d] 27)) BX.out) hb4); clear hb4))
        go_roundw
        case rel => exact ⟨j + 1, by omega, by go_num, by rw [HAk2.out]; rfl, B4.out⟩
        case measure => simp [intOf]; omega
    · obtain rfl : j = N := by omega
      have hji : ¬ (j : Int) < j := by omega
      obtain ⟨AN, hAN⟩ : ∃ AN, AL j = AN := ⟨_, rfl⟩
      rw [hAN] at SM ⊢
      clear hAN
      have BY := BX
      obtain ⟨w6, hw6⟩ : ∃ w6, w6 = wr := ⟨_, rfl⟩
      subst hw6
      clear hb
      go_wp2
      go_loopw [87] (fun a wr => ∃ (j : Nat), j ≤ K ∧ a = .int .i64 j ∧ Below w3.heap.size w3 wr) (fun a _ => K - (intOf a).toNat)
      case atStart => exact ⟨0, by omega, rfl, BY.out⟩
      case round =>
        obtain ⟨i, hi, rfl, hb⟩ := hrel
        obtain ⟨wz, hwz⟩ : ∃ wz, wz = wr := ⟨_, rfl⟩
        subst hwz
        have BX := hidq hb
        have hK8 := HYl.out
        by_cases hin : i < K
        · have hii : (i : Int) < K := by omega
          obtain ⟨bG, oG, rfl⟩ := vY3 (by omega)
          obtain ⟨u, hui⟩ : ∃ u, Y[i]? = some u := ⟨_, List.getElem?_eq_getElem (by rw [HK.out]; exact hin)⟩
          obtain ⟨y1, y2⟩ := Ss.at (YW.out.below hb) hui
          have hm := List.mem_of_getElem? hui
          have hsb := HSu.out u hm
          obtain ⟨b1, b2, b3, b4⟩ := M.sub_fitq hsb
          obtain ⟨lo, hi', tl, e1, e2, e3, e4, e5, e6⟩ := HWi.out u hm
          obtain ⟨hi, rfl⟩ : ∃ hi, hi = hi' := ⟨_, rfl⟩
          obtain ⟨p, q0⟩ := u
          dsimp only at y1 y2 hsb b1 b2 b3 b4 e1
          have LC := hidq (fun W => leaves8_all h p q0 W b1 b2 b3 b4)
          rw [M.lvA_yes hsb, M.subE_yes hsb, e1, List.length_cons] at LC
          have HLO0 := hidq (fun I J (hx : M.subB h I J = true) => M.sh_yes hx (HLf.out _ e3))
          have HH := hidq (fun (k : Nat) (x : Int × Int) (hk : C[k]? = some x) => M.Sg_take (f := M.inN h lo) hk)
          have HH2 := hidq (fun (k : Nat) => show 0 ≤ M.Sg (M.inN h lo) (C.take k) ∧ M.Sg (M.inN h lo) (C.take k) ≤ 4000 by
            have h1 := M.inN_len h lo (C.take k)
            have h2 : (C.take k).length ≤ C.length := by rw [List.length_take]; omega
            have h3 := HN.out
            omega)
          have HEn := hidq (show M.Sg (M.inN h lo) (C.take j) = 1 by rw [List.take_of_length_le (Nat.le_of_eq HN.out)]; exact e6)
          have hlo : lo ≤ 18446744073709551615 := by omega
          have RX := hidq (below_one (o := (.cells #[.int .u64 p, .int .u64 q0] 27)) (Below.refl wz.heap.size wz))
          have TX := Bi.new wz 27 p q0
          obtain ⟨TXa, TXb⟩ := TX.facts
          have XZ := hidq (XW.out.below hb)
          clear hm hui hsb e1 e4 e5 e6 hb TX b1 b2 b3 b4
          have htl : ¬ ((tl.length + 1 : Nat) : Int) = 0 := by omega
          have htl2 : ¬ (tl.length : Int) + 1 = 0 := by omega
          have htl3 : (0 : Int) < (tl.length : Int) + 1 := by omega
          have htl4 : (0 : Int) < ((tl.length + 1 : Nat) : Int) := by omega
          have htl5 : 0 < tl.length + 1 := by omega
          go_wp2_with (first | (go_at_call 17; refine (LC.out _).mono ?_; rintro e w5 ⟨a5, c5, rfl, p5, hb5⟩; have P5 := hidq p5; have B5 := hidq (below_trans RX.out hb5); clear p5 hb5))
          obtain ⟨bP, oP, rfl⟩ := Ps.ptry P5.out (by omega)
          go_loopw [106, 19] (fun a b wr => ∃ (q : Nat), q ≤ j ∧ a = .int .i64 q ∧ b = .int .i64 (M.Sg (M.inN h lo) (C.take q)) ∧ Below w5.heap.size w5 wr) (fun a _ _ => j - (intOf a).toNat)
          case atStart => exact ⟨0, by omega, rfl, rfl, Below.refl _ _⟩
          case round =>
            obtain ⟨q, hq, rfl, rfl, hbq⟩ := hrel
            obtain ⟨wq0, hwq⟩ : ∃ wq0, wq0 = wr := ⟨_, rfl⟩
            subst hwq
            have RQ := hidq hbq
            by_cases hqn : q < j
            · have hqi : (q : Int) < j := by omega
              obtain ⟨bF, oF, rfl⟩ := vX2 (by omega)
              obtain ⟨s, hsq⟩ : ∃ s, C[q]? = some s := ⟨_, List.getElem?_eq_getElem (by rw [HN.out]; exact hqn)⟩
              obtain ⟨x1, x2⟩ := Ss.at ((XZ.out.below B5.out).below hbq) hsq
              have hsb := HSd.out s (List.mem_of_getElem? hsq)
              obtain ⟨b1, b2, b3, b4⟩ := M.sub_fitq hsb
              have p1 := HH.out q s hsq
              have p2 := HH2.out q
              obtain ⟨y, d⟩ := s
              dsimp only at x1 x2 b1 b2 b3 b4 hsb
              have hin2 : M.inN h lo (y, d) = if M.inS (M.lvs h y d) lo = true then 1 else 0 := rfl
              rw [hin2] at p1
              have HLO := hidq (fun W => has8_any h y d lo W b1 b2 b3 b4 e2 hlo)
              obtain ⟨k1, k2⟩ := HLO0.out y d hsb
              rw [k1, k2] at HLO
              generalize M.inS (M.lvs h y d) lo = r at *
              obtain ⟨A0, hA0⟩ : ∃ A0, M.Sg (M.inN h lo) (C.take q) = A0 := ⟨_, rfl⟩
              obtain ⟨A1, hA1⟩ : ∃ A1, M.Sg (M.inN h lo) (C.take (q + 1)) = A1 := ⟨_, rfl⟩
              rw [hA0] at p1 p2 ⊢
              rw [hA1] at p1
              have HA1 := hidq hA1
              have PQ := hidq (P5.out.below hbq)
              have SX := hidq (Bi.new wq0 27 y d)
              obtain ⟨SXa, SXb⟩ := SX.out.facts
              have hw4 : IntKind.i64.wrap (A0 + 1) = A0 + 1 := by rw [IntKind.wrap_i64]; omega
              clear hsb k1 k2 hA0 hA1 hbq hin2 hsq b1 b2 b3 b4
              go_wp2
              cases r with
              | true =>
                obtain ⟨G', HG, HFc, HOc, HW, ne⟩ := clq_of w5 (wq0.alloc (.cells #[.int .u64 y, .int .u64 d] 27)) (fun X' => Bi X' wq0.heap.size 27 y d ∧ Ps X' (.slice (some ⟨bP, oP, none⟩) (tl.length + 1) c5) ((lo, hi) :: tl)) (fun _ _ h hb => ⟨h.1.below hb, h.2.below hb⟩) ⟨Bi.new wq0 27 y d, PQ.out.alloc _⟩ (below_one (o := (.cells #[.int .u64 y, .int .u64 d] 27)) RQ.out)
                have a1c := fun c : Clq G' => (HFc.out c).1.facts.1
                have a2c := fun c : Clq G' => (HFc.out c).1.facts.2
                have a3c := fun c : Clq G' => (Ps.at (HFc.out c).2 (k := 0) rfl).1
                simp only [Nat.zero_mul, Nat.add_zero] at a3c
                refine regionq (by kernel_rfl) (by kernel_rfl) HW.out ?_
                repeat (go_big_quiet_step (first | (go_at_call 15; exact quietq HG.out _ (HLO.out _))))
                refine wpQuiet_nil ?_
                rintro _ ⟨s9, rfl⟩
                have Q9 := hidq (HOc.out s9)
                generalize s9.W = W9 at *
                clear a1c a2c a3c
                go_wp2
                go_roundw
                case rel => exact ⟨q + 1, by omega, by go_num, by rw [HA1.out, p1]; rfl, Q9.out⟩
                case measure => simp [intOf]; omega
              | false =>
                obtain ⟨G', HG, HFc, HOc, HW, ne⟩ := clq_of w5 (wq0.alloc (.cells #[.int .u64 y, .int .u64 d] 27)) (fun X' => Bi X' wq0.heap.size 27 y d ∧ Ps X' (.slice (some ⟨bP, oP, none⟩) (tl.length + 1) c5) ((lo, hi) :: tl)) (fun _ _ h hb => ⟨h.1.below hb, h.2.below hb⟩) ⟨Bi.new wq0 27 y d, PQ.out.alloc _⟩ (below_one (o := (.cells #[.int .u64 y, .int .u64 d] 27)) RQ.out)
                have a1c := fun c : Clq G' => (HFc.out c).1.facts.1
                have a2c := fun c : Clq G' => (HFc.out c).1.facts.2
                have a3c := fun c : Clq G' => (Ps.at (HFc.out c).2 (k := 0) rfl).1
                simp only [Nat.zero_mul, Nat.add_zero] at a3c
                refine regionq (by kernel_rfl) (by kernel_rfl) HW.out ?_
                repeat (go_big_quiet_step (first | (go_at_call 15; exact quietq HG.out _ (HLO.out _))))
                refine wpQuiet_nil ?_
                rintro _ ⟨s9, rfl⟩
                have Q9 := hidq (HOc.out s9)
                generalize s9.W = W9 at *
                clear a1c a2c a3c
                go_wp2
                go_roundw
                case rel => exact ⟨q + 1, by omega, by go_num, by rw [HA1.out, p1]; simp, Q9.out⟩
                case measure => simp [intOf]; omega
            · obtain rfl : q = j := by omega
              have hqi : ¬ (q : Int) < q := by omega
              have hE1 := HEn.out
              rw [hE1]
              clear hbq hE1
              go_wp2
              first
                | (go_roundw; (case rel => exact ⟨i + 1, by omega, by go_num, below_trans (below_trans BX.out B5.out) RQ.out⟩); (case measure => simp [intOf]; omega))
                | exact ⟨⟨i + 1, by omega, by go_num, below_trans (below_trans BX.out B5.out) RQ.out⟩, by simp [intOf]; omega⟩
        · obtain rfl : i = K := by omega
          have hii : ¬ (i : Int) < i := by omega
          clear hb
          cases AN with
          | true =>
            go_wp2_with (first | (go_at_call 10; refine (SM.out _ _ _ (YW.out.below BX.out) (XW.out.below BX.out)).mono ?_; rintro e w9 ⟨rfl, hb9⟩; have B9 := hidq (below_trans BX.out hb9); clear hb9))
            go_ret
            exact ⟨rfl, below_trans hB3.out B9.out⟩
          | false =>
            go_wp2_with (first | (go_at_call 10; refine (SM.out _ _ _ (YW.out.below BX.out) (XW.out.below BX.out)).mono ?_; rintro e w9 ⟨rfl, hb9⟩; have B9 := hidq (below_trans BX.out hb9); clear hb9))
            go_ret
            exact ⟨rfl, below_trans hB3.out B9.out⟩
set_option maxRecDepth 100000 in
theorem layerParts_walk (h : Int) (L : List Int) (v : Value) (w : World) (_ : -9223372036854775808 ≤ h) (_ : h ≤ 9223372036854775807) (hu : Us w v L) :
    Calls Try.prog 5 #[.int .i64 h, v] w fun e w' => e = .returned (.bool true) ∧ Below w.heap.size w w' := by
  by_cases hl : L.length ≤ 30
  · cases hs : M.setB h L with
    | true => exact layerParts_yes h L v w hu hl hs
    | false => exact layerParts_no h L v w hu hl hs
  · exact layerParts_long h L v w hu hl
end Go.Proofs.Ytmicgojojkkkhaa
