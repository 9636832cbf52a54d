/-
  The law DiffFewer returns true at every input: the cover by differences has no more subsets than the one by whole subtrees, each of which lies in just one of them; of one leaf it has one. Conditions: the slice holds numbers, the numbers fit their kinds.
-/
import Derived.Test.YtjaikcnfepbpgaaZJ5
import Derived.Test.YtjaikcnfepbpgaaZTR
namespace Go.Proofs.Ytjaikcnfepbpgaa
open Go.RowKit
set_option maxRecDepth 100000 in
set_option maxHeartbeats 4000000 in
theorem diffFewer_long (h : Int) (L : List Int) (v : Value) (w : World) (hu : Us w v L) (hl : ¬ L.length ≤ 30) :
    Calls Try.prog 6 #[.int .i64 h, v] w fun e w' => e = .returned (.bool true) ∧ Below w.heap.size w w' := by
  obtain ⟨ao, cap, rfl, -⟩ := us_view hu
  have hB0 := Below.refl w.heap.size w
  have U0 := hu
  have hli : (30 : Int) < L.length := by omega
  clear hl hu
  have T1 := hidq trivial
  go_enter Try.func6, Try.ntmps6
  go_wp2_with (first | (go_at_call 8; clear T1; refine (live11_any _).mono ?_; rintro e w1 ⟨rfl, hb1⟩; have U1 := (U0.below hb1); clear U0; have hB1 := below_trans hB0 hb1))
  go_ret
  exact ⟨rfl, hB1⟩
set_option maxRecDepth 100000 in
set_option maxHeartbeats 4000000 in
theorem diffFewer_no (h : Int) (L : List Int) (v : Value) (w : World) (hu : Us w v L) (hl : L.length ≤ 30) (hs : ¬ M.setE h L = 0) :
    Calls Try.prog 6 #[.int .i64 h, v] w fun e w' => e = .returned (.bool true) ∧ Below w.heap.size w w' := by
  have CA := hidq (fun W v (u : Us W v L) => dcover_any h L v W u)
  have CW := hidq (fun W v (u : Us W v L) => cover_any h L v W u)
  rw [M.dfL_no hs, M.setE_one hs] at CA
  rw [M.cvL_no hs, M.setE_one hs] at CW
  obtain ⟨ao, cap, rfl, -⟩ := us_view hu
  have hB0 := Below.refl w.heap.size w
  have U0 := hu
  have hli : ¬ (30 : Int) < L.length := by omega
  have T1 := hidq trivial
  have T2 := hidq trivial
  clear hl hu hs
  go_enter Try.func6, Try.ntmps6
  go_wp2_with (first | (go_at_call 8; clear T1; refine (live11_any _).mono ?_; rintro e w1 ⟨rfl, hb1⟩; have U1 := (U0.below hb1); clear U0; have hB1 := below_trans hB0 hb1) | (go_at_call 9; clear T2; refine (CA.out _ _ U1).mono ?_; rintro e w2 ⟨x, rfl, X2, hb2⟩; have U2 := (U1.below hb2); clear U1; have hB2 := (below_trans hB1 hb2); obtain ⟨aX2, cX2, rfl, kX2, -, vX2⟩ := X2.form) | (go_at_call 22; refine (CW.out _ _ U2).mono ?_; rintro e w3 ⟨x, rfl, Y3, hb3⟩; have X3 := X2.below hb3; clear U2 X2; have hB3 := hidq (below_trans hB2 hb3); obtain ⟨aY3, cY3, rfl, kY3, -, vY3⟩ := Y3.form))
  go_ret
  exact ⟨rfl, hB3.out⟩
theorem Ps.ptrz {W : World} {ao : Option Addr} {n cap : Nat} {S : List (Int × Int)} (h : Ps W (.slice ao n cap) S) : 0 < n → ∃ b off, ao = some ⟨b, off, none⟩ := by
  obtain ⟨a, c, e, h2, _, _, h5⟩ := h
  cases e
  exact fun h0 => by obtain ⟨b, off, h6, _⟩ := h5 (by omega); exact ⟨b, off, h6⟩
set_option maxRecDepth 100000 in
set_option maxHeartbeats 8000000 in
theorem diffFewer_more (h : Int) (L : List Int) (v : Value) (w : World) (hu : Us w v L) (hl : L.length ≤ 30) (hs : M.setB h L = true) (h1 : ¬ L.length = 1) :
    Calls Try.prog 6 #[.int .i64 h, v] w fun e w' => e = .returned (.bool true) ∧ Below w.heap.size w w' := by
  have CA := hidq (fun W v (u : Us W v L) => dcover_any h L v W u)
  have CW := hidq (fun W v (u : Us W v L) => cover_any h L v W u)
  have HFi := hidq (M.dfL_fit hs)
  have HSu := hidq (M.dfL_sub hs)
  have HWh := hidq (fun t (ht : t ∈ M.thV h L) => M.dfL_whole hs ht)
  obtain ⟨f1, f2⟩ := M.dfL_fewer hs
  obtain ⟨b1, b2⟩ := M.dfL_bound hs
  obtain ⟨s1, s2, -⟩ := M.set_of hs
  have hdl : M.dbV h L.length ≤ 61 := by unfold M.dbV; rw [b1, if_pos rfl]; split <;> omega
  have HCl := hidq (show (M.dfL h L).length ≤ 61 by omega)
  have HTl := hidq (M.thV_len (h := h) (L := L))
  have HLf := hidq (fun i (hi : i < M.p2 h) => M.leafE_yes s1 s2 hi)
  rw [M.setE_zero.2 hs] at CA CW
  unfold M.cvL at CW
  have hp32 := M.p2_32 s2
  generalize M.dfL h L = C at *
  generalize M.thV h L = T at *
  have HAt := hidq (M.bare_at T)
  have HAl := hidq (M.bare_length T)
  generalize M.bare T = Y at *
  have HE := hidq (fun lo (hx : M.Sg (M.inN h lo) C = 1) => show M.Sg (M.inN h lo) (C.take C.length) = 1 by rw [List.take_length]; exact hx)
  have hCY : C.length ≤ Y.length := by rw [HAl.out]; exact f1
  obtain ⟨ao, cap, rfl, -⟩ := us_view hu
  have hB0 := Below.refl w.heap.size w
  have U0 := hu
  have hli : ¬ (30 : Int) < L.length := by omega
  have hL1 : ¬ (L.length : Int) = 1 := by omega
  have hL1b : ((L.length : Int) == 1) = false := by rw [beq_eq_false_iff_ne]; exact hL1
  clear h1 hu hl
  have T1 := hidq trivial
  have T2 := hidq trivial
  clear f1 f2 b1 b2 hdl hs
  go_enter Try.func6, Try.ntmps6
  go_wp2_with (first | (go_at_call 8; clear T1; refine (live11_any _).mono ?_; rintro e w1 ⟨rfl, hb1⟩; have U1 := (U0.below hb1); clear U0; have hB1 := below_trans hB0 hb1) | (go_at_call 9; clear T2; refine (CA.out _ _ U1).mono ?_; rintro e w2 ⟨x, rfl, X2, hb2⟩; have U2 := (U1.below hb2); clear U1; have hB2 := (below_trans hB1 hb2); obtain ⟨aX2, cX2, rfl, kX2, -, vX2⟩ := X2.form) | (go_at_call 22; refine (CW.out _ _ U2).mono ?_; rintro e w3 ⟨x, rfl, Y3, hb3⟩; have X3 := X2.below hb3; clear U2 X2; have hB3 := hidq (below_trans hB2 hb3); obtain ⟨aY3, cY3, rfl, kY3, -, vY3⟩ := Y3.form))
  generalize hN : C.length = N at *
  generalize hK : Y.length = K at *
  have HN := hidq hN
  have hN8 := HCl.out
  have hK8 : K ≤ 80000 := by have := HAl.out; have := HTl.out; omega
  clear hN hK
  have hKn : ¬ (K : Int) < N := by omega
  go_loopw [67] (fun a wr => ∃ (j : Nat), j ≤ K ∧ a = .int .i64 j ∧ Below w3.heap.size w3 wr) (fun a _ => K - (intOf a).toNat)
  case atStart => exact ⟨0, by omega, rfl, Below.refl _ _⟩
  case round =>
    obtain ⟨j, hj, rfl, hb⟩ := hrel
    obtain ⟨wz, hwz⟩ : ∃ wz, wz = wr := ⟨_, rfl⟩
    subst hwz
    have BX := hidq hb
    by_cases hjn : j < K
    · have hji : (j : Int) < K := by omega
      obtain ⟨bG, oG, rfl⟩ := vY3 (by omega)
      have hjl : j < T.length := by have := HAl.out; omega
      obtain ⟨y1, y2⟩ := Ss.at (Y3.below hb) (HAt.out j hjl)
      dsimp only at y1 y2
      have hm : T[j]?.getD 0 ∈ T := by rw [List.getElem?_eq_getElem hjl]; exact List.getElem_mem hjl
      obtain ⟨g1, g2, g3, g4, gk, g5, g6⟩ := HWh.out _ hm
      generalize T[j]?.getD 0 = t at *
      have ht0 : 0 ≤ t := by have := (M.ok_of gk).2.2.1; omega
      have ht1 : t ≤ 18446744073709551615 := by have := M.ok_lt gk; omega
      have LC := hidq (fun W => leaves8_all h t 0 W ht0 ht1 (by omega) (by omega))
      rw [M.lvA_yes (M.sub_mk0 gk), M.subE_yes (M.sub_mk0 gk), M.lvs_bare] at LC
      have HLO0 := hidq (fun I J (hx : M.subB h I J = true) => M.sh_yes hx (HLf.out _ g2))
      have HHI0 := hidq (fun I J (hx : M.subB h I J = true) => M.sh_yes hx (HLf.out _ g4))
      generalize M.low h t = lo at *
      generalize M.high h t = hi at *
      have hEn := HE.out lo g6
      have HH := hidq (fun (k : Nat) (x : Int × Int) (hk : C[k]? = some x) => M.Sg_take (f := M.inN h lo) hk)
      have HH2 := hidq (fun (k : Nat) => show 0 ≤ M.Sg (M.inN h lo) (C.take k) ∧ M.Sg (M.inN h lo) (C.take k) ≤ 1000 by
        have h1 := M.inN_len h lo (C.take k)
        have h2 : (C.take k).length ≤ C.length := by rw [List.length_take]; omega
        have h3 := HN.out
        omega)
      have HEn := hidq hEn
      have RX := hidq (below_one (o := (.cells #[.int .u64 t, .int .u64 0] 36)) (Below.refl wz.heap.size wz))
      have TX := Bi.new wz 36 t 0
      obtain ⟨TXa, TXb⟩ := TX.facts
      have G1 := hidq g1
      have G3 := hidq g3
      have G2 := hidq g2
      have G4 := hidq g4
      have G5 := hidq g5
      have XZ := hidq (X3.below hb)
      clear hm gk g2 g4 g5 g6 hEn hb hjl TX
      go_wp2_with (first | (go_at_call 18; refine (LC.out _).mono ?_; rintro e w4 ⟨a4, c4, rfl, p4, hb4⟩; have P4 := hidq p4; have B4 := hidq (below_trans RX.out hb4); clear p4 hb4))
      obtain ⟨bP, oP, rfl⟩ := Ps.ptrz P4.out (by simp)
      go_loopw [86, 14] (fun a b wr => ∃ (q : Nat), q ≤ N ∧ a = .int .i64 q ∧ b = .int .i64 (M.Sg (M.inN h lo) (C.take q)) ∧ Below w4.heap.size w4 wr) (fun a _ _ => N - (intOf a).toNat)
      case atStart => exact ⟨0, by omega, rfl, rfl, Below.refl _ _⟩
      case round =>
        obtain ⟨q, hq, rfl, rfl, hbq⟩ := hrel
        obtain ⟨wq0, hwq⟩ : ∃ wq0, wq0 = wr := ⟨_, rfl⟩
        subst hwq
        have RQ := hidq hbq
        by_cases hqn : q < N
        · have hqi : (q : Int) < N := by omega
          have kX9 : N ≤ cX2 := kX2
          obtain ⟨bF, oF, rfl⟩ := vX2 (by omega)
          clear kX9
          obtain ⟨s, hsq⟩ : ∃ s, C[q]? = some s := ⟨_, List.getElem?_eq_getElem (by rw [HN.out]; exact hqn)⟩
          obtain ⟨x1, x2⟩ := Ss.at ((XZ.out.below B4.out).below hbq) hsq
          have hms := List.mem_of_getElem? hsq
          obtain ⟨f1, f2, f3, f4, -⟩ := HFi.out s hms
          have hsb := HSu.out s hms
          have h5 := G5.out s hms
          have p1 := HH.out q s hsq
          have p2 := HH2.out q
          obtain ⟨y, d⟩ := s
          dsimp only at x1 x2 f1 f2 f3 f4 hsb h5
          have hin : M.inN h lo (y, d) = if M.inS (M.lvs h y d) lo = true then 1 else 0 := rfl
          rw [hin] at p1
          have HLO := hidq (fun W => has8_any h y d lo W (by omega) f2 f3 f4 G1.out (by have := G2.out; omega))
          have HHI := hidq (fun W => has8_any h y d hi W (by omega) f2 f3 f4 G3.out (by have := G4.out; omega))
          obtain ⟨e1, e2⟩ := HLO0.out y d hsb
          obtain ⟨e3, e4⟩ := HHI0.out y d hsb
          rw [e1, e2] at HLO
          rw [e3, e4, h5] at HHI
          generalize M.inS (M.lvs h y d) lo = r at *
          obtain ⟨A0, hA0⟩ : ∃ A0, M.Sg (M.inN h lo) (C.take q) = A0 := ⟨_, rfl⟩
          obtain ⟨A1, hA1⟩ : ∃ A1, M.Sg (M.inN h lo) (C.take (q + 1)) = A1 := ⟨_, rfl⟩
          rw [hA0] at p1 p2 ⊢
          rw [hA1] at p1
          have HA1 := hidq hA1
          have PQ := hidq (P4.out.below hbq)
          have SX := hidq (Bi.new wq0 36 y d)
          obtain ⟨SXa, SXb⟩ := SX.out.facts
          have hw4 : IntKind.i64.wrap (A0 + 1) = A0 + 1 := by rw [IntKind.wrap_i64]; omega
          clear hms hsb h5 e1 e2 e3 e4 hA0 hA1 hbq hin hsq
          go_wp2
          cases r with
          | true =>
            obtain ⟨G1, HG1, HFc1, HOc1, HW1, ne1⟩ := clq_of w4 (wq0.alloc (.cells #[.int .u64 y, .int .u64 d] 36)) (fun X' => Bi X' wq0.heap.size 36 y d ∧ Ps X' (.slice (some ⟨bP, oP, none⟩) 1 c4) [(lo, hi)]) (fun _ _ h hb => ⟨h.1.below hb, h.2.below hb⟩) ⟨Bi.new wq0 36 y d, PQ.out.alloc _⟩ (below_one (o := (.cells #[.int .u64 y, .int .u64 d] 36)) RQ.out)
            have a1c := fun c : Clq G1 => (HFc1.out c).1.facts.1
            have a2c := fun c : Clq G1 => (HFc1.out c).1.facts.2
            have a3c := fun c : Clq G1 => (Ps.at (HFc1.out c).2 (k := 0) rfl).1
            have a4c := fun c : Clq G1 => (Ps.at (HFc1.out c).2 (k := 0) rfl).2
            simp only [Nat.zero_mul, Nat.add_zero] at a3c a4c
            refine regionq (by kernel_rfl) (by kernel_rfl) HW1.out ?_
            repeat (go_big_quiet_step (first | (go_at_call 15; exact quietq HG1.out _ (HLO.out _))))
            refine wpQuiet_nil ?_
            rintro _ ⟨s1, rfl⟩
            have C1 := hidq (HFc1.out s1)
            have Q1 := hidq (HOc1.out s1)
            generalize s1.W = W1 at *
            clear a1c a2c a3c a4c
            go_wp2
            obtain ⟨G2, HG2, HFc2, HOc2, HW2, ne2⟩ := clq_of w4 W1 (fun X' => Bi X' wq0.heap.size 36 y d ∧ Ps X' (.slice (some ⟨bP, oP, none⟩) 1 c4) [(lo, hi)]) (fun _ _ h hb => ⟨h.1.below hb, h.2.below hb⟩) C1.out Q1.out
            have a1c := fun c : Clq G2 => (HFc2.out c).1.facts.1
            have a2c := fun c : Clq G2 => (HFc2.out c).1.facts.2
            have a3c := fun c : Clq G2 => (Ps.at (HFc2.out c).2 (k := 0) rfl).1
            have a4c := fun c : Clq G2 => (Ps.at (HFc2.out c).2 (k := 0) rfl).2
            simp only [Nat.zero_mul, Nat.add_zero] at a3c a4c
            refine regionq (by kernel_rfl) (by kernel_rfl) HW2.out ?_
            repeat (go_big_quiet_step (first | (go_at_call 15; exact quietq HG2.out _ (HHI.out _))))
            refine wpQuiet_nil ?_
            rintro _ ⟨s2, rfl⟩
            have C2 := hidq (HFc2.out s2)
            have Q2 := hidq (HOc2.out s2)
            generalize s2.W = W2 at *
            clear a1c a2c a3c a4c
            go_wp2
            go_roundw
            case rel => exact ⟨q + 1, by omega, by go_num, by rw [HA1.out, p1]; rfl, Q2.out⟩
            case measure => simp [intOf]; omega
          | false =>
            obtain ⟨G1, HG1, HFc1, HOc1, HW1, ne1⟩ := clq_of w4 (wq0.alloc (.cells #[.int .u64 y, .int .u64 d] 36)) (fun X' => Bi X' wq0.heap.size 36 y d ∧ Ps X' (.slice (some ⟨bP, oP, none⟩) 1 c4) [(lo, hi)]) (fun _ _ h hb => ⟨h.1.below hb, h.2.below hb⟩) ⟨Bi.new wq0 36 y d, PQ.out.alloc _⟩ (below_one (o := (.cells #[.int .u64 y, .int .u64 d] 36)) RQ.out)
            have a1c := fun c : Clq G1 => (HFc1.out c).1.facts.1
            have a2c := fun c : Clq G1 => (HFc1.out c).1.facts.2
            have a3c := fun c : Clq G1 => (Ps.at (HFc1.out c).2 (k := 0) rfl).1
            have a4c := fun c : Clq G1 => (Ps.at (HFc1.out c).2 (k := 0) rfl).2
            simp only [Nat.zero_mul, Nat.add_zero] at a3c a4c
            refine regionq (by kernel_rfl) (by kernel_rfl) HW1.out ?_
            repeat (go_big_quiet_step (first | (go_at_call 15; exact quietq HG1.out _ (HLO.out _))))
            refine wpQuiet_nil ?_
            rintro _ ⟨s1, rfl⟩
            have C1 := hidq (HFc1.out s1)
            have Q1 := hidq (HOc1.out s1)
            generalize s1.W = W1 at *
            clear a1c a2c a3c a4c
            go_wp2
            obtain ⟨G2, HG2, HFc2, HOc2, HW2, ne2⟩ := clq_of w4 W1 (fun X' => Bi X' wq0.heap.size 36 y d ∧ Ps X' (.slice (some ⟨bP, oP, none⟩) 1 c4) [(lo, hi)]) (fun _ _ h hb => ⟨h.1.below hb, h.2.below hb⟩) C1.out Q1.out
            have a1c := fun c : Clq G2 => (HFc2.out c).1.facts.1
            have a2c := fun c : Clq G2 => (HFc2.out c).1.facts.2
            have a3c := fun c : Clq G2 => (Ps.at (HFc2.out c).2 (k := 0) rfl).1
            have a4c := fun c : Clq G2 => (Ps.at (HFc2.out c).2 (k := 0) rfl).2
            simp only [Nat.zero_mul, Nat.add_zero] at a3c a4c
            refine regionq (by kernel_rfl) (by kernel_rfl) HW2.out ?_
            repeat (go_big_quiet_step (first | (go_at_call 15; exact quietq HG2.out _ (HHI.out _))))
            refine wpQuiet_nil ?_
            rintro _ ⟨s2, rfl⟩
            have C2 := hidq (HFc2.out s2)
            have Q2 := hidq (HOc2.out s2)
            generalize s2.W = W2 at *
            clear a1c a2c a3c a4c
            go_wp2
            go_roundw
            case rel => exact ⟨q + 1, by omega, by go_num, by rw [HA1.out, p1]; simp, Q2.out⟩
            case measure => simp [intOf]; omega
        · obtain rfl : q = N := by omega
          have hqi : ¬ ((q : Int) < q) := by omega
          have hE1 : M.Sg (M.inN h lo) (C.take q) = 1 := HEn.out
          rw [hE1]
          clear hbq hE1
          go_wp2
          first | exact ⟨⟨_, _, _, _, _, _, _, _, _, _, .int .i64 ((j : Int) + 1), ⟨j + 1, by omega, by go_num, below_trans (below_trans BX.out B4.out) RQ.out⟩, rfl, rfl, rfl, rfl, rfl, rfl, rfl, rfl, rfl, rfl, rfl⟩, by simp [intOf]; omega⟩ | exact ⟨⟨j + 1, by omega, by go_num, below_trans (below_trans BX.out B4.out) RQ.out⟩, by simp [intOf]; omega⟩
    · obtain rfl : j = K := by omega
      have hji : ¬ (j : Int) < j := by omega
      clear hb
      go_wp2
      go_ret
      exact ⟨rfl, below_trans hB3.out BX.out⟩
set_option maxRecDepth 100000 in
set_option maxHeartbeats 8000000 in
theorem diffFewer_one (h : Int) (L : List Int) (v : Value) (w : World) (hu : Us w v L) (hl : L.length ≤ 30) (hs : M.setB h L = true) (h1 : L.length = 1) :
    Calls Try.prog 6 #[.int .i64 h, v] w fun e w' => e = .returned (.bool true) ∧ Below w.heap.size w w' := by
  have CA := hidq (fun W v (u : Us W v L) => dcover_any h L v W u)
  have CW := hidq (fun W v (u : Us W v L) => cover_any h L v W u)
  have HFi := hidq (M.dfL_fit hs)
  have HSu := hidq (M.dfL_sub hs)
  have HWh := hidq (fun t (ht : t ∈ M.thV h L) => M.dfL_whole hs ht)
  obtain ⟨f1, f2⟩ := M.dfL_fewer hs
  obtain ⟨b1, b2⟩ := M.dfL_bound hs
  obtain ⟨s1, s2, -⟩ := M.set_of hs
  have hdl : M.dbV h L.length ≤ 61 := by unfold M.dbV; rw [b1, if_pos rfl]; split <;> omega
  have HCl := hidq (show (M.dfL h L).length ≤ 61 by omega)
  have HTl := hidq (M.thV_len (h := h) (L := L))
  have HLf := hidq (fun i (hi : i < M.p2 h) => M.leafE_yes s1 s2 hi)
  rw [M.setE_zero.2 hs] at CA CW
  unfold M.cvL at CW
  have hp32 := M.p2_32 s2
  generalize M.dfL h L = C at *
  generalize M.thV h L = T at *
  have HAt := hidq (M.bare_at T)
  have HAl := hidq (M.bare_length T)
  generalize M.bare T = Y at *
  have HE := hidq (fun lo (hx : M.Sg (M.inN h lo) C = 1) => show M.Sg (M.inN h lo) (C.take C.length) = 1 by rw [List.take_length]; exact hx)
  have hCY : C.length ≤ Y.length := by rw [HAl.out]; exact f1
  obtain ⟨x, rfl⟩ := List.length_eq_one_iff.1 h1
  have HC1 := hidq (f2 rfl)
  obtain ⟨ao, cap, rfl, -⟩ := us_view hu
  have hB0 := Below.refl w.heap.size w
  have U0 := hu
  clear h1 hu hl
  obtain ⟨s0, rfl⟩ := List.length_eq_one_iff.1 HC1.out
  have hKn0 : ¬ (Y.length : Int) < 1 := by have := hCY; simp only [List.length_cons, List.length_nil] at this; omega
  have hKn1 : ¬ Y.length = 0 := by omega
  have hKn2 : ¬ Y = [] := fun e => hKn1 (by rw [e]; rfl)
  clear hCY
  have T1 := hidq trivial
  have T2 := hidq trivial
  clear f1 f2 b1 b2 hdl hs
  go_enter Try.func6, Try.ntmps6
  go_wp2_with (first | (go_at_call 8; clear T1; refine (live11_any _).mono ?_; rintro e w1 ⟨rfl, hb1⟩; have U1 := (U0.below hb1); clear U0; have hB1 := below_trans hB0 hb1) | (go_at_call 9; clear T2; refine (CA.out _ _ U1).mono ?_; rintro e w2 ⟨x, rfl, X2, hb2⟩; have U2 := (U1.below hb2); clear U1; have hB2 := (below_trans hB1 hb2); obtain ⟨aX2, cX2, rfl, kX2, -, vX2⟩ := X2.form) | (go_at_call 22; refine (CW.out _ _ U2).mono ?_; rintro e w3 ⟨x, rfl, Y3, hb3⟩; have X3 := X2.below hb3; clear U2 X2; have hB3 := hidq (below_trans hB2 hb3); obtain ⟨aY3, cY3, rfl, kY3, -, vY3⟩ := Y3.form))
  generalize hK : Y.length = K at *
  have HN := hidq (show [s0].length = 1 from rfl)
  have hN8 := HCl.out
  have hK8 : K ≤ 80000 := by have := HAl.out; have := HTl.out; omega
  clear hK
  go_loopw [67] (fun a wr => ∃ (j : Nat), j ≤ K ∧ a = .int .i64 j ∧ Below w3.heap.size w3 wr) (fun a _ => K - (intOf a).toNat)
  case atStart => exact ⟨0, by omega, rfl, Below.refl _ _⟩
  case round =>
    obtain ⟨j, hj, rfl, hb⟩ := hrel
    obtain ⟨wz, hwz⟩ : ∃ wz, wz = wr := ⟨_, rfl⟩
    subst hwz
    have BX := hidq hb
    by_cases hjn : j < K
    · have hji : (j : Int) < K := by omega
      obtain ⟨bG, oG, rfl⟩ := vY3 (by omega)
      have hjl : j < T.length := by have := HAl.out; omega
      obtain ⟨y1, y2⟩ := Ss.at (Y3.below hb) (HAt.out j hjl)
      dsimp only at y1 y2
      have hm : T[j]?.getD 0 ∈ T := by rw [List.getElem?_eq_getElem hjl]; exact List.getElem_mem hjl
      obtain ⟨g1, g2, g3, g4, gk, g5, g6⟩ := HWh.out _ hm
      generalize T[j]?.getD 0 = t at *
      have ht0 : 0 ≤ t := by have := (M.ok_of gk).2.2.1; omega
      have ht1 : t ≤ 18446744073709551615 := by have := M.ok_lt gk; omega
      have LC := hidq (fun W => leaves8_all h t 0 W ht0 ht1 (by omega) (by omega))
      rw [M.lvA_yes (M.sub_mk0 gk), M.subE_yes (M.sub_mk0 gk), M.lvs_bare] at LC
      have HLO0 := hidq (fun I J (hx : M.subB h I J = true) => M.sh_yes hx (HLf.out _ g2))
      have HHI0 := hidq (fun I J (hx : M.subB h I J = true) => M.sh_yes hx (HLf.out _ g4))
      generalize M.low h t = lo at *
      generalize M.high h t = hi at *
      have hEn := HE.out lo g6
      have HH := hidq (fun (k : Nat) (x : Int × Int) (hk : [s0][k]? = some x) => M.Sg_take (f := M.inN h lo) hk)
      have HH2 := hidq (fun (k : Nat) => show 0 ≤ M.Sg (M.inN h lo) ([s0].take k) ∧ M.Sg (M.inN h lo) ([s0].take k) ≤ 1000 by
        have h1 := M.inN_len h lo ([s0].take k)
        have h2 : ([s0].take k).length ≤ [s0].length := by rw [List.length_take]; omega
        have h3 := HN.out
        omega)
      have HEn := hidq hEn
      have RX := hidq (below_one (o := (.cells #[.int .u64 t, .int .u64 0] 36)) (Below.refl wz.heap.size wz))
      have TX := Bi.new wz 36 t 0
      obtain ⟨TXa, TXb⟩ := TX.facts
      have G1 := hidq g1
      have G3 := hidq g3
      have G2 := hidq g2
      have G4 := hidq g4
      have G5 := hidq g5
      have XZ := hidq (X3.below hb)
      clear hm gk g2 g4 g5 g6 hEn hb hjl TX
      go_wp2_with (first | (go_at_call 18; refine (LC.out _).mono ?_; rintro e w4 ⟨a4, c4, rfl, p4, hb4⟩; have P4 := hidq p4; have B4 := hidq (below_trans RX.out hb4); clear p4 hb4))
      obtain ⟨bP, oP, rfl⟩ := Ps.ptrz P4.out (by simp)
      go_loopw [86, 14] (fun a b wr => ∃ (q : Nat), q ≤ 1 ∧ a = .int .i64 q ∧ b = .int .i64 (M.Sg (M.inN h lo) ([s0].take q)) ∧ Below w4.heap.size w4 wr) (fun a _ _ => 1 - (intOf a).toNat)
      case atStart => exact ⟨0, by omega, rfl, rfl, Below.refl _ _⟩
      case round =>
        obtain ⟨q, hq, rfl, rfl, hbq⟩ := hrel
        obtain ⟨wq0, hwq⟩ : ∃ wq0, wq0 = wr := ⟨_, rfl⟩
        subst hwq
        have RQ := hidq hbq
        by_cases hqn : q < 1
        · have hqi : (q : Int) < 1 := by omega
          have kX9 : 1 ≤ cX2 := kX2
          obtain ⟨bF, oF, rfl⟩ := vX2 (by omega)
          clear kX9
          obtain ⟨s, hsq⟩ : ∃ s, [s0][q]? = some s := ⟨_, List.getElem?_eq_getElem (by rw [HN.out]; exact hqn)⟩
          obtain ⟨x1, x2⟩ := Ss.at ((XZ.out.below B4.out).below hbq) hsq
          have hms := List.mem_of_getElem? hsq
          obtain ⟨f1, f2, f3, f4, -⟩ := HFi.out s hms
          have hsb := HSu.out s hms
          have h5 := G5.out s hms
          have p1 := HH.out q s hsq
          have p2 := HH2.out q
          obtain ⟨y, d⟩ := s
          dsimp only at x1 x2 f1 f2 f3 f4 hsb h5
          have hin : M.inN h lo (y, d) = if M.inS (M.lvs h y d) lo = true then 1 else 0 := rfl
          rw [hin] at p1
          have HLO := hidq (fun W => has8_any h y d lo W (by omega) f2 f3 f4 G1.out (by have := G2.out; omega))
          have HHI := hidq (fun W => has8_any h y d hi W (by omega) f2 f3 f4 G3.out (by have := G4.out; omega))
          obtain ⟨e1, e2⟩ := HLO0.out y d hsb
          obtain ⟨e3, e4⟩ := HHI0.out y d hsb
          rw [e1, e2] at HLO
          rw [e3, e4, h5] at HHI
          generalize M.inS (M.lvs h y d) lo = r at *
          obtain ⟨A0, hA0⟩ : ∃ A0, M.Sg (M.inN h lo) ([s0].take q) = A0 := ⟨_, rfl⟩
          obtain ⟨A1, hA1⟩ : ∃ A1, M.Sg (M.inN h lo) ([s0].take (q + 1)) = A1 := ⟨_, rfl⟩
          rw [hA0] at p1 p2 ⊢
          rw [hA1] at p1
          have HA1 := hidq hA1
          have PQ := hidq (P4.out.below hbq)
          have SX := hidq (Bi.new wq0 36 y d)
          obtain ⟨SXa, SXb⟩ := SX.out.facts
          have hw4 : IntKind.i64.wrap (A0 + 1) = A0 + 1 := by rw [IntKind.wrap_i64]; omega
          clear hms hsb h5 e1 e2 e3 e4 hA0 hA1 hbq hin hsq
          go_wp2
          cases r with
          | true =>
            obtain ⟨G1, HG1, HFc1, HOc1, HW1, ne1⟩ := clq_of w4 (wq0.alloc (.cells #[.int .u64 y, .int .u64 d] 36)) (fun X' => Bi X' wq0.heap.size 36 y d ∧ Ps X' (.slice (some ⟨bP, oP, none⟩) 1 c4) [(lo, hi)]) (fun _ _ h hb => ⟨h.1.below hb, h.2.below hb⟩) ⟨Bi.new wq0 36 y d, PQ.out.alloc _⟩ (below_one (o := (.cells #[.int .u64 y, .int .u64 d] 36)) RQ.out)
            have a1c := fun c : Clq G1 => (HFc1.out c).1.facts.1
            have a2c := fun c : Clq G1 => (HFc1.out c).1.facts.2
            have a3c := fun c : Clq G1 => (Ps.at (HFc1.out c).2 (k := 0) rfl).1
            have a4c := fun c : Clq G1 => (Ps.at (HFc1.out c).2 (k := 0) rfl).2
            simp only [Nat.zero_mul, Nat.add_zero] at a3c a4c
            refine regionq (by kernel_rfl) (by kernel_rfl) HW1.out ?_
            repeat (go_big_quiet_step (first | (go_at_call 15; exact quietq HG1.out _ (HLO.out _))))
            refine wpQuiet_nil ?_
            rintro _ ⟨s1, rfl⟩
            have C1 := hidq (HFc1.out s1)
            have Q1 := hidq (HOc1.out s1)
            generalize s1.W = W1 at *
            clear a1c a2c a3c a4c
            go_wp2
            obtain ⟨G2, HG2, HFc2, HOc2, HW2, ne2⟩ := clq_of w4 W1 (fun X' => Bi X' wq0.heap.size 36 y d ∧ Ps X' (.slice (some ⟨bP, oP, none⟩) 1 c4) [(lo, hi)]) (fun _ _ h hb => ⟨h.1.below hb, h.2.below hb⟩) C1.out Q1.out
            have a1c := fun c : Clq G2 => (HFc2.out c).1.facts.1
            have a2c := fun c : Clq G2 => (HFc2.out c).1.facts.2
            have a3c := fun c : Clq G2 => (Ps.at (HFc2.out c).2 (k := 0) rfl).1
            have a4c := fun c : Clq G2 => (Ps.at (HFc2.out c).2 (k := 0) rfl).2
            simp only [Nat.zero_mul, Nat.add_zero] at a3c a4c
            refine regionq (by kernel_rfl) (by kernel_rfl) HW2.out ?_
            repeat (go_big_quiet_step (first | (go_at_call 15; exact quietq HG2.out _ (HHI.out _))))
            refine wpQuiet_nil ?_
            rintro _ ⟨s2, rfl⟩
            have C2 := hidq (HFc2.out s2)
            have Q2 := hidq (HOc2.out s2)
            generalize s2.W = W2 at *
            clear a1c a2c a3c a4c
            go_wp2
            go_roundw
            case rel => exact ⟨q + 1, by omega, by go_num, by rw [HA1.out, p1]; rfl, Q2.out⟩
            case measure => simp [intOf]; omega
          | false =>
            obtain ⟨G1, HG1, HFc1, HOc1, HW1, ne1⟩ := clq_of w4 (wq0.alloc (.cells #[.int .u64 y, .int .u64 d] 36)) (fun X' => Bi X' wq0.heap.size 36 y d ∧ Ps X' (.slice (some ⟨bP, oP, none⟩) 1 c4) [(lo, hi)]) (fun _ _ h hb => ⟨h.1.below hb, h.2.below hb⟩) ⟨Bi.new wq0 36 y d, PQ.out.alloc _⟩ (below_one (o := (.cells #[.int .u64 y, .int .u64 d] 36)) RQ.out)
            have a1c := fun c : Clq G1 => (HFc1.out c).1.facts.1
            have a2c := fun c : Clq G1 => (HFc1.out c).1.facts.2
            have a3c := fun c : Clq G1 => (Ps.at (HFc1.out c).2 (k := 0) rfl).1
            have a4c := fun c : Clq G1 => (Ps.at (HFc1.out c).2 (k := 0) rfl).2
            simp only [Nat.zero_mul, Nat.add_zero] at a3c a4c
            refine regionq (by kernel_rfl) (by kernel_rfl) HW1.out ?_
            repeat (go_big_quiet_step (first | (go_at_call 15; exact quietq HG1.out _ (HLO.out _))))
            refine wpQuiet_nil ?_
            rintro _ ⟨s1, rfl⟩
            have C1 := hidq (HFc1.out s1)
            have Q1 := hidq (HOc1.out s1)
            generalize s1.W = W1 at *
            clear a1c a2c a3c a4c
            go_wp2
            obtain ⟨G2, HG2, HFc2, HOc2, HW2, ne2⟩ := clq_of w4 W1 (fun X' => Bi X' wq0.heap.size 36 y d ∧ Ps X' (.slice (some ⟨bP, oP, none⟩) 1 c4) [(lo, hi)]) (fun _ _ h hb => ⟨h.1.below hb, h.2.below hb⟩) C1.out Q1.out
            have a1c := fun c : Clq G2 => (HFc2.out c).1.facts.1
            have a2c := fun c : Clq G2 => (HFc2.out c).1.facts.2
            have a3c := fun c : Clq G2 => (Ps.at (HFc2.out c).2 (k := 0) rfl).1
            have a4c := fun c : Clq G2 => (Ps.at (HFc2.out c).2 (k := 0) rfl).2
            simp only [Nat.zero_mul, Nat.add_zero] at a3c a4c
            refine regionq (by kernel_rfl) (by kernel_rfl) HW2.out ?_
            repeat (go_big_quiet_step (first | (go_at_call 15; exact quietq HG2.out _ (HHI.out _))))
            refine wpQuiet_nil ?_
            rintro _ ⟨s2, rfl⟩
            have C2 := hidq (HFc2.out s2)
            have Q2 := hidq (HOc2.out s2)
            generalize s2.W = W2 at *
            clear a1c a2c a3c a4c
            go_wp2
            go_roundw
            case rel => exact ⟨q + 1, by omega, by go_num, by rw [HA1.out, p1]; simp, Q2.out⟩
            case measure => simp [intOf]; omega
        · obtain rfl : q = 1 := by omega
          have hqi : ¬ (((1 : Nat) : Int) < 1) := by omega
          have hE1 : M.Sg (M.inN h lo) ([s0].take 1) = 1 := HEn.out
          rw [hE1]
          clear hbq hE1
          go_wp2
          first | exact ⟨⟨_, _, _, _, _, _, _, _, _, _, .int .i64 ((j : Int) + 1), ⟨j + 1, by omega, by go_num, below_trans (below_trans BX.out B4.out) RQ.out⟩, rfl, rfl, rfl, rfl, rfl, rfl, rfl, rfl, rfl, rfl, rfl⟩, by simp [intOf]; omega⟩ | exact ⟨⟨j + 1, by omega, by go_num, below_trans (below_trans BX.out B4.out) RQ.out⟩, by simp [intOf]; omega⟩
    · obtain rfl : j = K := by omega
      have hji : ¬ (j : Int) < j := by omega
      clear hb
      go_wp2
      go_ret
      exact ⟨rfl, below_trans hB3.out BX.out⟩
set_option maxRecDepth 100000 in
theorem diffFewer_walk (h : Int) (L : List Int) (v : Value) (w : World) (_ : -9223372036854775808 ≤ h) (_ : h ≤ 9223372036854775807) (hu : Us w v L) :
    Calls Try.prog 6 #[.int .i64 h, v] w fun e w' => e = .returned (.bool true) ∧ Below w.heap.size w w' := by
  by_cases hl : L.length ≤ 30
  · by_cases hs : M.setE h L = 0
    · by_cases h1 : L.length = 1
      · exact diffFewer_one h L v w hu hl (M.setE_zero.1 hs) h1
      · exact diffFewer_more h L v w hu hl (M.setE_zero.1 hs) h1
    · exact diffFewer_no h L v w hu hl hs
  · exact diffFewer_long h L v w hu hl
end Go.Proofs.Ytjaikcnfepbpgaa
