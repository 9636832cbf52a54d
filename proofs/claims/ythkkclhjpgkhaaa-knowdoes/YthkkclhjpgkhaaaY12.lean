/-
  What the program's Is comes to. Conditions: each theorem's own premises.
-/
import Derived.Test.YthkkclhjpgkhaaaY11
import Derived.Test.YthkkclhjpgkhaaaQ3
namespace Go.Proofs.Ythkkclhjpgkhaaa
open Go.RowKit
theorem M.near_fol {A : List M.Tm} (hA : M.Ok A) {n p : Nat} {D : List Int} (hn : A.length = n) (hp : p < n) (hD : ∀ x ∈ D, M.Pl A x) : (M.nrF A n p).any (fun k => decide ((p : Int) ∈ M.tell A D k.toNat)) = true ↔ M.Fol A (· ∈ D) p := by
  rw [List.any_eq_true]
  constructor
  · rintro ⟨k, hk, hd⟩
    have h1 := M.nrF_lt A n p k hk
    exact (M.tell_fol hA (by omega) (of_decide_eq_true hd)).1
  · intro h
    obtain ⟨k, hk, hm, hx⟩ := M.fol_tell hD ⟨by omega, by omega⟩ h
    exact ⟨k, M.nrF_mem A hm n (by omega), by rw [Int.toNat_natCast]; exact decide_eq_true hx⟩
theorem M.two_okL {A : List M.Tm} {H L : List Int} : (M.Ok A ∧ ∀ X ∈ [H, L], M.okL A X) ↔ M.Ok A ∧ M.okL A H ∧ M.okL A L := by simp
set_option maxRecDepth 100000 in
theorem is_no {A : List M.Tm} {H L : List Int} (h : ¬ (M.Ok A ∧ M.okL A H ∧ M.okL A L)) {v1 v2 v3 : Value} (w : World) (u1 : Ts w v1 A) (u2 : Is w v2 H) (u3 : Is w v3 L) :
    Calls Try.prog 18 #[v1, v2, v3] w fun e w' => e = .returned (.tuple #[.bool false, .int .i64 1]) ∧ Below w.heap.size w w' := by
  obtain ⟨a2, c2, rfl, _, _, _⟩ := u2.form
  obtain ⟨a3, c3, rfl, _, _, _⟩ := u3.form
  have U1 := hidq u1
  have U2 := hidq u2
  have U3 := hidq u3
  have HR := hidq (hr_no (fun h' => h (M.two_okL.1 h')))
  clear u1 u2 u3 h
  go_enter Try.func18, Try.ntmps18
  go_wp2_with (first | (go_at_call 25; refine (kcheck_any A [H, L] _ _ _ _ (U1.out.alloc _) (iss_two w _ rfl _ _ _ H U2.out _ _ _ L U3.out) HR.out).mono ?_; rintro rr w1 ⟨rfl, hb1⟩; have B1 := hidq (below_trans (below_one (Below.refl _ _)) hb1); clear hb1))
  go_ret2
  exact ⟨rfl, B1.out⟩
set_option maxRecDepth 100000 in
set_option maxHeartbeats 8000000 in
theorem is_ok {A : List M.Tm} {H L : List Int} (hA : M.Ok A) (hH : M.okL A H) (hL : M.okL A L) {r : Bool} (hr : r = true ↔ M.Chn A H L) {v1 v2 v3 : Value} (w : World) (u1 : Ts w v1 A) (u2 : Is w v2 H) (u3 : Is w v3 L) :
    Calls Try.prog 18 #[v1, v2, v3] w fun e w' => e = .returned (.tuple #[.bool r, .int .i64 0]) ∧ Below w.heap.size w w' := by
  obtain ⟨n, hn⟩ : ∃ n, A.length = n := ⟨_, rfl⟩
  have hl := hA.1
  rw [hn] at hl
  obtain ⟨a1, ct, rfl, _, _, _⟩ := u1.form
  obtain ⟨a2, c2, rfl, _, _, _⟩ := u2.form
  obtain ⟨a3, c3, rfl, s31, s32, s34⟩ := u3.form
  have hL16 := hL.1
  have U1 := hidq u1
  have U2 := hidq u2
  have U3 := hidq u3
  have HS4 := hidq s34
  have HA := hidq hA
  have HH := hidq hH
  have HL := hidq hL
  have HN := hidq hn
  have HR := hidq (hr_yes (M.two_okL.2 ⟨hA, hH, hL⟩))
  have HK := hidq hr
  rw [hn] at U1 ⊢
  clear u1 u2 u3 hA hH hL hn hr s34
  have T0 := hidq trivial
  generalize hm : L.length = m at *
  have HM := hidq hm
  clear hm
  go_enter Try.func18, Try.ntmps18
  go_wp2_with (first | (go_at_call 25; refine (kcheck_any A [H, L] _ _ _ _ (U1.out.alloc _) (iss_two w _ rfl _ _ _ H U2.out _ _ _ L U3.out) HR.out).mono ?_; rintro rr w1 ⟨rfl, hb1⟩; have B1 := hidq (below_trans (below_one (Below.refl _ _)) hb1); clear hb1) | (go_at_call 26; clear T0; refine (mindOf_any n A H _ _ _ (U1.out.below B1.out) (U2.out.below B1.out) HN.out hl (M.okL.lt HH.out HN.out)).mono ?_; rintro rr w2 ⟨B0, rfl, hm2, hb2⟩; have M2 := hidq hm2; have B2_ := hidq hb2; clear hm2 hb2) | (go_at_call 26; refine (mindOf_any n A [] _ _ _ (U1.out.below (below_trans B1.out B2_.out)) (Sl.nil elInt _) HN.out hl (fun x hx => by cases hx)).mono ?_; rintro rr w3 ⟨B2, rfl, hm3, hb3⟩; have M3 := hidq hm3; have B3_ := hidq hb3; have W3B := hidq (below_trans B1.out (below_trans B2_.out hb3)); clear hm3 hb3) | (go_at_call 36; refine (near_any A HA.out n _ _ ((U1.out.below W3B.out).alloc _) HN.out).mono ?_; rintro rr w4 ⟨ga, rfl, hn4, hb4⟩; have N4 := hidq hn4; have B4_ := hidq hb4; clear hn4 hb4))
  have bz2 := B2_.out.size
  have bz3 := B3_.out.size
  have bz4 := B4_.out.size
  have bz1 := B1.out.size
  simp at bz4
  obtain ⟨T2, hT2⟩ : ∃ T2 : Nat → Prop, T2 = fun i => (w2.heap.size ≤ i ∧ i < w3.heap.size) ∨ w4.heap.size ≤ i := ⟨_, rfl⟩
  have HT2 : Hid (∀ i, w4.heap.size ≤ i → T2 i) := by rw [hT2]; exact fun i h => .inr h
  have HTW : Hid (∀ i, T2 i → w.heap.size ≤ i) := by rw [hT2]; exact fun i h => by omega
  have HTA : Hid (¬ T2 w3.heap.size) := by rw [hT2]; exact fun h => by omega
  have HTN : Hid (∀ i, w3.heap.size + 1 ≤ i → i < w4.heap.size → ¬ T2 i) := by rw [hT2]; exact fun i h1 h2 h => by omega
  have HTH : Hid (∀ i, i < w2.heap.size → ¬ T2 i) := by rw [hT2]; exact fun i h1 h => by omega
  have MA4 : Hid (Mind w4 T2 w2.heap.size B2 (.slice a1 n ct) n []) := by
    rw [hT2]
    exact ((M3.out.mono (T' := fun i => (w2.heap.size ≤ i ∧ i < w3.heap.size) ∨ w4.heap.size ≤ i) fun i h1 h2 => .inl ⟨h1, h2⟩).below ((Below.refl _ _).alloc (Nat.le_refl _) (.cells #[.pointer (some ⟨B2, 0, none⟩)] 48))).below B4_.out
  have BW4 := hidq (below_trans (below_one (o := (.cells #[.pointer (some ⟨B2, 0, none⟩)] 48)) W3B.out) B4_.out)
  have XA4 := hidq ((Bxs.new w3 #[.pointer (some ⟨B2, 0, none⟩)] 48).below B4_.out)
  have B24 := hidq (below_trans (below_one (o := (.cells #[.pointer (some ⟨B2, 0, none⟩)] 48)) B3_.out) B4_.out)
  have N4' := hidq (show Nst w4 (w3.heap.size + 1) ga n (M.nrF A n) from by simpa using N4.out)
  clear N4 M3 B3_ W3B B4_ hT2
  generalize hS2 : w2.heap.size = S2 at *
  go_loopw [32] (fun x wr => ∃ k : Nat, k ≤ m ∧ x = .int .i64 k ∧ Mind wr T2 S2 B2 (.slice a1 n ct) n (L.take k) ∧ M.Chn A H (L.take k) ∧ M.Gd n (L.take k) ∧ Outs T2 w4 wr) (fun x _ => m - (intOf x).toNat)
  case atStart => exact ⟨0, by omega, rfl, MA4.out, M.Chn.nil A H, M.Gd.nil n, Outs.refl _ _⟩
  case round =>
    obtain ⟨k, hk, rfl, hmd, hch, hgd, hou⟩ := hrel
    have HOU := hidq hou
    have HCH := hidq hch
    have GD := hidq hgd
    have bzr := hou.size
    have WB := hidq (BW4.out.trans (hou.below HTW.out BW4.out.size))
    by_cases hlt : k < m
    · obtain ⟨b1, o1, rfl⟩ := HS4.out (by omega)
      obtain ⟨x, hx⟩ : ∃ x, L[k]? = some x := ⟨_, List.getElem?_eq_getElem (by rw [HM.out]; exact hlt)⟩
      have c1 := Is.cellq (U3.out.below WB.out) hx
      have hxb := HL.out.2 x (List.mem_of_getElem? hx)
      obtain ⟨p, rfl⟩ : ∃ p : Nat, x = p := ⟨x.toNat, by have := hxb.1; omega⟩
      have hpn : p < n := by have := hxb.2; have := HN.out; omega
      have hpi : (p : Int) < n := by omega
      have HX := hidq hx
      have HNX := hidq (show L.take (k + 1) = L.take k ++ [(p : Int)] by
        obtain ⟨hkl, e⟩ := List.getElem?_eq_some_iff.1 hx
        rw [List.take_succ_eq_append_getElem hkl, e])
      have HCK := hidq (fun h : M.Chn A H L => h k (by rw [HM.out]; exact hlt))
      rw [hx] at HCK
      simp only [Option.getD_some] at HCK
      have HDP := hidq (fun x hx => by have := HL.out.2 x (List.mem_of_mem_take hx); exact this : ∀ x ∈ L.take k, M.Pl A x)
      have HNF := hidq (M.near_fol HA.out HN.out hpn HDP.out)
      generalize hDe : L.take k = D at *
      obtain ⟨al, hal⟩ : ∃ al, decide ((p : Int) ∈ D) = al := ⟨_, rfl⟩
      obtain ⟨hd, hhd⟩ : ∃ hd, decide ((p : Int) ∈ H) = hd := ⟨_, rfl⟩
      have hpd := hal
      have hph : decide ((p : Int) ∈ M.lrn [] H) = hd := by rw [← hhd]; exact decide_eq_decide.2 M.lrn0_mem
      obtain ⟨an, han⟩ : ∃ an, (M.nrF A n p).any (fun k => decide ((p : Int) ∈ M.tell A D k.toNat)) = an := ⟨_, rfl⟩
      rw [han] at HNF
      -- in memory
      obtain ⟨ar, cr, q4, or_⟩ := (N4'.out.outs hou HTN.out).row hpn
      have NRI0 := (Is.of_ownq or_ hl (M.nrF_lt A n p)).alloc (.cells #[.int .i64 (p : Int)] 3)
      have hgaW : ga < wr.heap.size := Nat.lt_of_lt_of_le N4'.out.block.2 bzr
      have HNC := hidq (show (wr.alloc (.cells #[.int .i64 (p : Int)] 3)).cell? ⟨ga, p, none⟩ = _ from (((Below.refl wr.heap.size wr).alloc (Nat.le_refl _) _).cell (p := ⟨ga, p, none⟩) hgaW).trans q4)
      obtain ⟨N, hN⟩ : ∃ N, M.nrF A n p = N := ⟨_, rfl⟩
      have HNE := hidq hN
      rw [hN] at NRI0 HNC han
      have NRI := hidq NRI0
      have HAN := hidq han
      have XA := hidq ((XA4.out.outs hou HTA.out).alloc (.cells #[.int .i64 (p : Int)] 3))
      have X9 := hidq (Bxs.new wr #[.int .i64 (p : Int)] 3)
      have MR := hidq (hmd.below ((Below.refl _ _).alloc (Nat.le_refl _) (.cells #[.int .i64 (p : Int)] 3)))
      have UR := hidq ((U1.out.below WB.out).alloc (.cells #[.int .i64 (p : Int)] 3))
      obtain ⟨g2, vo2, m1, m2, m3, _, _, _⟩ := MR.out
      have XM := hidq m1
      have KM := hidq m2
      have MH : Mind (wr.alloc (.cells #[.int .i64 (p : Int)] 3)) (fun i => w1.heap.size ≤ i ∧ i < S2) w1.heap.size B0 (.slice a1 n ct) n (M.lrn [] H) := by
        have e1 := M2.out.mono (T' := fun i => w1.heap.size ≤ i ∧ i < S2) fun i h1 h2 => ⟨h1, by omega⟩
        exact ((e1.below (by rw [hS2]; exact B24.out)).outs hou fun i h1 _ => HTH.out i h1.2).below ((Below.refl _ _).alloc (Nat.le_refl _) _)
      obtain ⟨g1, vo1, n1, n2, n3, _, _, _⟩ := MH
      have XH := hidq n1
      have KH := hidq n2
      clear m1 m2 m3 n1 n2 n3 hmd hch hgd hou or_ q4 NRI0 hN han hx hxb hS2
      cases al with
      | true =>
        obtain rfl : r = false := by
          cases r with
          | false => rfl
          | true => exact absurd (of_decide_eq_true hal) (HCK.out (HK.out.1 rfl)).1
        clear hal hhd
        go_wp2
        (obtain ⟨G, HG, HF, HO, HW, ne⟩ := clq_of w (wr.alloc (.cells #[.int .i64 (p : Int)] 3)) (fun X => Below (wr.alloc (.cells #[.int .i64 (p : Int)] 3)).heap.size (wr.alloc (.cells #[.int .i64 (p : Int)] 3)) X) (fun _ _ h hb => below_trans h hb) (Below.refl _ _) (below_one WB.out); have y1 := fun c : Clq G => (XA.out.below (HF.out c)).cell 0; have y2 := fun c : Clq G => (XM.out.below (HF.out c)).cell 1; have y3 := fun c : Clq G => (ownB_cell (own_keptq KM.out (HF.out c)) hpn).trans (congrArg (fun b => some (Value.bool b)) hpd); have y4 := fun c : Clq G => (X9.out.below (HF.out c)).cell 0; have y5 := fun c : Clq G => (XH.out.below (HF.out c)).cell 1; have y6 := fun c : Clq G => (ownB_cell (own_keptq KH.out (HF.out c)) hpn).trans (congrArg (fun b => some (Value.bool b)) hph); have y7 := fun c : Clq G => ((HF.out c).cell (p := ⟨ga, p, none⟩) (by simp; omega)).trans HNC.out; refine regionq (by kernel_rfl) (by kernel_rfl) HW.out ?_)
        repeat (go_big_quiet_step (first | (go_at_call 33; exact quietq HG.out _ (has_is (fun k => decide ((p : Int) ∈ M.tell A D k.toNat)) w3.heap.size wr.heap.size N _ _ (NRI.out.below (HF.out _)) (fun X hb x hx => by have hx1 := M.nrF_lt A n p x (by rw [HNE.out]; exact hx); obtain ⟨kk, rfl⟩ : ∃ kk : Nat, x = kk := ⟨x.toNat, by omega⟩; exact is1_any A HA.out w3.heap.size wr.heap.size B2 _ T2 S2 n D kk p X (XA.out.below (below_trans (HF.out _) hb)) (X9.out.below (below_trans (HF.out _) hb)) (MR.out.below (below_trans (HF.out _) hb)) (UR.out.below (below_trans (HF.out _) hb)) HN.out (by omega)) _ HAN.out))))
        refine wpQuiet_nil ?_
        (rintro _ ⟨c2, rfl⟩; have hb5 := hidq (HO.out c2); clear y1 y2 y3 y4 y5 y6 y7; go_wp2; go_ret2; exact ⟨rfl, hb5.out⟩)
      | false =>
        have HAL := hidq (of_decide_eq_false hal)
        have HD2 := hidq (show L.take (k + 1) = M.lrn D [(p : Int)] by rw [HNX.out, M.lrn_one, M.lrn1_no HAL.out])
        have HG2 := hidq (show M.Gd n (L.take (k + 1)) by rw [HD2.out]; exact GD.out.lrn fun x hx => by rw [List.mem_singleton] at hx; subst hx; omega)
        have HC2 := hidq (show (p : Int) ∈ H ∨ M.Fol A (· ∈ D) p → M.Chn A H (L.take (k + 1)) from fun h => by rw [HNX.out]; exact HCH.out.snoc HAL.out h)
        clear hal
        cases hd with
        | true =>
          have HC3 := hidq (HC2.out (.inl (of_decide_eq_true hhd)))
          clear hhd
          go_wp2
          (obtain ⟨G, HG, HF, HO, HW, ne⟩ := clq_of w (wr.alloc (.cells #[.int .i64 (p : Int)] 3)) (fun X => Below (wr.alloc (.cells #[.int .i64 (p : Int)] 3)).heap.size (wr.alloc (.cells #[.int .i64 (p : Int)] 3)) X) (fun _ _ h hb => below_trans h hb) (Below.refl _ _) (below_one WB.out); have y1 := fun c : Clq G => (XA.out.below (HF.out c)).cell 0; have y2 := fun c : Clq G => (XM.out.below (HF.out c)).cell 1; have y3 := fun c : Clq G => (ownB_cell (own_keptq KM.out (HF.out c)) hpn).trans (congrArg (fun b => some (Value.bool b)) hpd); have y4 := fun c : Clq G => (X9.out.below (HF.out c)).cell 0; have y5 := fun c : Clq G => (XH.out.below (HF.out c)).cell 1; have y6 := fun c : Clq G => (ownB_cell (own_keptq KH.out (HF.out c)) hpn).trans (congrArg (fun b => some (Value.bool b)) hph); have y7 := fun c : Clq G => ((HF.out c).cell (p := ⟨ga, p, none⟩) (by simp; omega)).trans HNC.out; refine regionq (by kernel_rfl) (by kernel_rfl) HW.out ?_)
          repeat (go_big_quiet_step (first | (go_at_call 33; exact quietq HG.out _ (has_is (fun k => decide ((p : Int) ∈ M.tell A D k.toNat)) w3.heap.size wr.heap.size N _ _ (NRI.out.below (HF.out _)) (fun X hb x hx => by have hx1 := M.nrF_lt A n p x (by rw [HNE.out]; exact hx); obtain ⟨kk, rfl⟩ : ∃ kk : Nat, x = kk := ⟨x.toNat, by omega⟩; exact is1_any A HA.out w3.heap.size wr.heap.size B2 _ T2 S2 n D kk p X (XA.out.below (below_trans (HF.out _) hb)) (X9.out.below (below_trans (HF.out _) hb)) (MR.out.below (below_trans (HF.out _) hb)) (UR.out.below (below_trans (HF.out _) hb)) HN.out (by omega)) _ HAN.out))))
          refine wpQuiet_nil ?_
          (rintro _ ⟨c2, rfl⟩; have hb5 := hidq (HF.out c2); generalize c2.W = W5 at *; clear y1 y2 y3 y4 y5 y6 y7 HG HF HO HW ne; have z1 := (XA.out.below hb5.out).cell 0; have z2 := (X9.out.below hb5.out).cell 0; have sz5 := hb5.out.size; simp at sz5; have M5 := hidq (MR.out.below hb5.out); have M6 := hidq (M5.out.gap ((Below.refl _ _).alloc (Nat.le_refl _) (.cells #[.int .i64 (p : Int)] 3))); have O5 := hidq (HOU.out.trans ((Outs.alloc (T := T2) wr (.cells #[.int .i64 (p : Int)] 3)).trans (Outs.of_below hb5.out))); go_wp2_with (first | (go_at_call 39; refine (learn_any (fun i => T2 i ∧ (i < W5.heap.size ∨ (W5.alloc (.cells #[.int .i64 (p : Int)] 3)).heap.size ≤ i)) S2 B2 _ n D [(p : Int)] _ _ M6.out (fun i hi => ⟨HT2.out i (by simp at hi; omega), .inr hi⟩) (by simp; omega) hl GD.out (fun x hx => by rw [List.mem_singleton] at hx; subst hx; omega) (fun X hX => Is.of_ownq (own_outs (own_lit1 W5 W5.heap.size W5.heap.size rfl (Nat.le_refl _) (p : Int)) hX fun k hk => by cases hk; simp) hl (fun x hx => by rw [List.mem_singleton] at hx; subst hx; omega))).mono ?_; rintro rr w7 ⟨rfl, hm7, ho7⟩; have M7 := hidq (hm7.mono (T' := T2) fun _ h _ => h.1); have O7 := hidq ((Outs.alloc W5 (.cells #[.int .i64 (p : Int)] 3)).trans (ho7.mono fun _ h => h.1)); clear hm7 ho7)))
          go_roundw
          case rel => exact ⟨k + 1, by omega, by go_num, by rw [HD2.out]; exact M7.out, HC3.out, HG2.out, O5.out.trans O7.out⟩
          case measure => simp [intOf]; omega
        | false =>
          cases an with
          | true =>
            have HC3 := hidq (HC2.out (.inr (HNF.out.1 rfl)))
            clear hhd
            go_wp2
            (obtain ⟨G, HG, HF, HO, HW, ne⟩ := clq_of w (wr.alloc (.cells #[.int .i64 (p : Int)] 3)) (fun X => Below (wr.alloc (.cells #[.int .i64 (p : Int)] 3)).heap.size (wr.alloc (.cells #[.int .i64 (p : Int)] 3)) X) (fun _ _ h hb => below_trans h hb) (Below.refl _ _) (below_one WB.out); have y1 := fun c : Clq G => (XA.out.below (HF.out c)).cell 0; have y2 := fun c : Clq G => (XM.out.below (HF.out c)).cell 1; have y3 := fun c : Clq G => (ownB_cell (own_keptq KM.out (HF.out c)) hpn).trans (congrArg (fun b => some (Value.bool b)) hpd); have y4 := fun c : Clq G => (X9.out.below (HF.out c)).cell 0; have y5 := fun c : Clq G => (XH.out.below (HF.out c)).cell 1; have y6 := fun c : Clq G => (ownB_cell (own_keptq KH.out (HF.out c)) hpn).trans (congrArg (fun b => some (Value.bool b)) hph); have y7 := fun c : Clq G => ((HF.out c).cell (p := ⟨ga, p, none⟩) (by simp; omega)).trans HNC.out; refine regionq (by kernel_rfl) (by kernel_rfl) HW.out ?_)
            repeat (go_big_quiet_step (first | (go_at_call 33; exact quietq HG.out _ (has_is (fun k => decide ((p : Int) ∈ M.tell A D k.toNat)) w3.heap.size wr.heap.size N _ _ (NRI.out.below (HF.out _)) (fun X hb x hx => by have hx1 := M.nrF_lt A n p x (by rw [HNE.out]; exact hx); obtain ⟨kk, rfl⟩ : ∃ kk : Nat, x = kk := ⟨x.toNat, by omega⟩; exact is1_any A HA.out w3.heap.size wr.heap.size B2 _ T2 S2 n D kk p X (XA.out.below (below_trans (HF.out _) hb)) (X9.out.below (below_trans (HF.out _) hb)) (MR.out.below (below_trans (HF.out _) hb)) (UR.out.below (below_trans (HF.out _) hb)) HN.out (by omega)) _ HAN.out))))
            refine wpQuiet_nil ?_
            (rintro _ ⟨c2, rfl⟩; have hb5 := hidq (HF.out c2); generalize c2.W = W5 at *; clear y1 y2 y3 y4 y5 y6 y7 HG HF HO HW ne; have z1 := (XA.out.below hb5.out).cell 0; have z2 := (X9.out.below hb5.out).cell 0; have sz5 := hb5.out.size; simp at sz5; have M5 := hidq (MR.out.below hb5.out); have M6 := hidq (M5.out.gap ((Below.refl _ _).alloc (Nat.le_refl _) (.cells #[.int .i64 (p : Int)] 3))); have O5 := hidq (HOU.out.trans ((Outs.alloc (T := T2) wr (.cells #[.int .i64 (p : Int)] 3)).trans (Outs.of_below hb5.out))); go_wp2_with (first | (go_at_call 39; refine (learn_any (fun i => T2 i ∧ (i < W5.heap.size ∨ (W5.alloc (.cells #[.int .i64 (p : Int)] 3)).heap.size ≤ i)) S2 B2 _ n D [(p : Int)] _ _ M6.out (fun i hi => ⟨HT2.out i (by simp at hi; omega), .inr hi⟩) (by simp; omega) hl GD.out (fun x hx => by rw [List.mem_singleton] at hx; subst hx; omega) (fun X hX => Is.of_ownq (own_outs (own_lit1 W5 W5.heap.size W5.heap.size rfl (Nat.le_refl _) (p : Int)) hX fun k hk => by cases hk; simp) hl (fun x hx => by rw [List.mem_singleton] at hx; subst hx; omega))).mono ?_; rintro rr w7 ⟨rfl, hm7, ho7⟩; have M7 := hidq (hm7.mono (T' := T2) fun _ h _ => h.1); have O7 := hidq ((Outs.alloc W5 (.cells #[.int .i64 (p : Int)] 3)).trans (ho7.mono fun _ h => h.1)); clear hm7 ho7)))
            go_roundw
            case rel => exact ⟨k + 1, by omega, by go_num, by rw [HD2.out]; exact M7.out, HC3.out, HG2.out, O5.out.trans O7.out⟩
            case measure => simp [intOf]; omega
          | false =>
            obtain rfl : r = false := by
              cases r with
              | false => rfl
              | true =>
                rcases (HCK.out (HK.out.1 rfl)).2 with h | h
                · exact absurd h (of_decide_eq_false hhd)
                · have := HNF.out.2 h
                  cases this
            clear hhd
            go_wp2
            (obtain ⟨G, HG, HF, HO, HW, ne⟩ := clq_of w (wr.alloc (.cells #[.int .i64 (p : Int)] 3)) (fun X => Below (wr.alloc (.cells #[.int .i64 (p : Int)] 3)).heap.size (wr.alloc (.cells #[.int .i64 (p : Int)] 3)) X) (fun _ _ h hb => below_trans h hb) (Below.refl _ _) (below_one WB.out); have y1 := fun c : Clq G => (XA.out.below (HF.out c)).cell 0; have y2 := fun c : Clq G => (XM.out.below (HF.out c)).cell 1; have y3 := fun c : Clq G => (ownB_cell (own_keptq KM.out (HF.out c)) hpn).trans (congrArg (fun b => some (Value.bool b)) hpd); have y4 := fun c : Clq G => (X9.out.below (HF.out c)).cell 0; have y5 := fun c : Clq G => (XH.out.below (HF.out c)).cell 1; have y6 := fun c : Clq G => (ownB_cell (own_keptq KH.out (HF.out c)) hpn).trans (congrArg (fun b => some (Value.bool b)) hph); have y7 := fun c : Clq G => ((HF.out c).cell (p := ⟨ga, p, none⟩) (by simp; omega)).trans HNC.out; refine regionq (by kernel_rfl) (by kernel_rfl) HW.out ?_)
            repeat (go_big_quiet_step (first | (go_at_call 33; exact quietq HG.out _ (has_is (fun k => decide ((p : Int) ∈ M.tell A D k.toNat)) w3.heap.size wr.heap.size N _ _ (NRI.out.below (HF.out _)) (fun X hb x hx => by have hx1 := M.nrF_lt A n p x (by rw [HNE.out]; exact hx); obtain ⟨kk, rfl⟩ : ∃ kk : Nat, x = kk := ⟨x.toNat, by omega⟩; exact is1_any A HA.out w3.heap.size wr.heap.size B2 _ T2 S2 n D kk p X (XA.out.below (below_trans (HF.out _) hb)) (X9.out.below (below_trans (HF.out _) hb)) (MR.out.below (below_trans (HF.out _) hb)) (UR.out.below (below_trans (HF.out _) hb)) HN.out (by omega)) _ HAN.out))))
            refine wpQuiet_nil ?_
            (rintro _ ⟨c2, rfl⟩; have hb5 := hidq (HO.out c2); clear y1 y2 y3 y4 y5 y6 y7; go_wp2; go_ret2; exact ⟨rfl, hb5.out⟩)
    · obtain rfl : k = m := by omega
      have e : L.take k = L := List.take_of_length_le (by rw [HM.out]; omega)
      rw [e] at hch
      obtain rfl : r = true := HK.out.2 hch
      clear hmd hch hgd hou e
      go_wp2
      go_ret2
      exact ⟨rfl, WB.out⟩
end Go.Proofs.Ythkkclhjpgkhaaa
