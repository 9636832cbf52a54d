/-
  The walk of KnowMore at every input. Conditions: the slices hold terms, and places.
-/
import Derived.Test.YthkkclhjpgkhaaaL61
namespace Go.Proofs.Ythkkclhjpgkhaaa
open Go.RowKit
set_option maxRecDepth 100000 in
set_option maxHeartbeats 4000000 in
theorem knowMore_walk (A : List M.Tm) (v1 : Value) (H : List Int) (v2 : Value) (L : List Int) (v3 : Value) (w : World) (u1 : Ts w v1 A) (u2 : Is w v2 H) (u3 : Is w v3 L) :
    Calls Try.prog 6 #[v1, v2, v3] w fun e w' => e = .returned (.bool true) ∧ Below w.heap.size w w' := by
  obtain ⟨a2, c2, rfl, p1, p2, _⟩ := u2.form
  obtain ⟨a3, c3, rfl, q1, q2, _⟩ := u3.form
  have HLF := hidq (show ∀ x ∈ L ++ H, M.fitI x from fun x hx => by
    rcases List.mem_append.1 hx with h | h
    · exact u3.oks x h
    · exact u2.oks x h)
  have U1 := hidq u1
  have U2 := hidq u2
  have U3 := hidq u3
  have T0 := hidq trivial
  have T1 := hidq trivial
  have T2 := hidq trivial
  have T3 := hidq trivial
  have T4 := hidq trivial
  have T5 := hidq trivial
  clear u1 u2 u3
  by_cases hfe : M.Few2 A H L
  · have HFE := hidq hfe
    have HFW := hidq (show H.length ≤ 65545 ∧ L.length ≤ 65545 by
      have f1 := hfe.2.1
      have f2 := hfe.2.2
      unfold M.Fw at f1 f2
      omega)
    obtain ⟨K0, e0, hA0⟩ := allA A []
    obtain ⟨Ka, e1, hA1⟩ := allA A H
    obtain ⟨Kb, e2, hA2⟩ := allA A (L ++ H)
    have HA0 := hidq hA0
    have HA1 := hidq hA1
    have HA2 := hidq hA2
    have e1c : e1 = 0 ∨ e1 = 1 := by rcases hA1 with h | h; exact .inl h.1; exact .inr h.1
    have e2c : e2 = 0 ∨ e2 = 1 := by rcases hA2 with h | h; exact .inl h.1; exact .inr h.1
    clear hfe
    rcases e1c with rfl | rfl
    · rcases e2c with rfl | rfl
      · clear HA0 hA0
        obtain ⟨am, ar, al, ab, aok, _⟩ := all_mem hA1
        obtain ⟨bm, br, bl, bb, _, _⟩ := all_mem hA2
        have HA0 := hidq (all_none aok)
        have HA3 := hidq (all_swap hA2)
        have hka := all_len hA1
        have hkb := all_len hA2
        have HSUB := hidq (show ∀ x ∈ Ka, x ∈ Kb from fun x hx => (bm x).2 (((am x).1 hx).sub fun y hy => by simp [hy]))
        have HAR := hidq ar
        have HBR := hidq br
        clear am ar al ab aok bm br bl bb hA1 hA2
        go_enter Try.func6, Try.ntmps6
        go_wp2_with (first | (go_at_call 10; refine (klive_any _).mono ?_; rintro rr w1 ⟨rfl, hb1⟩; have B1 := hidq hb1; have sz1 := hb1.size; clear hb1) | (go_at_call 11; refine (few2_yes HFE.out _ ((U1.out.below B1.out).alloc _) (iss_two w1 _ (by simp) _ _ _ H (U2.out.below B1.out) _ _ _ L (U3.out.below B1.out))).mono ?_; rintro rr w2 ⟨rfl, hw2⟩; subst w2; have B2 := hidq (fun o => below_one (o := o) B1.out)) | (go_at_call 12; clear T0; refine (kall_any HA0.out _ (U1.out.below (B2.out _)) (Sl.nil elInt _)).mono ?_; rintro rr w3 ⟨v30, rfl, ho3, hb3⟩; obtain ⟨a30, c30, rfl, _⟩ := own_formq ho3; have B3 := hidq (below_trans (B2.out _) hb3); clear ho3 hb3) | (go_at_call 12; clear T1; refine (kall_any HA1.out _ (U1.out.below B3.out) (U2.out.below B3.out)).mono ?_; rintro rr w4 ⟨v4, rfl, ho4, hb4⟩; have hI4 : Is w4 v4 Ka := Sl.of_own (E := elInt) ho4 (all_fit HA1.out); obtain ⟨a4, c4, rfl, _, _, z4⟩ := hI4.form; have I4 := hidq hI4; have Z4 := hidq z4; have B4 := hidq (below_trans B3.out hb4); have sz4 := B4.out.size; clear hI4 z4 ho4 hb4) | (at_builtin; clear T2; refine wpList_append_sl (E := elInt) rfl _ _ rfl w4.heap.size _ _ [] rfl (World.ownsRow_nil _ _ _ _) _ L rfl (U3.out.below B4.out) (by have := HFW.out; omega) (Nat.le_refl _) ?_; intro v5 w5 hown5 hgrow5; have O5 := hidq hown5; have C5 := hidq ((Below.refl _ _).grown hgrow5 (Nat.le_refl _) (fun q hq => by cases hq) : Below w4.heap.size w4 w5); clear hown5 hgrow5) | (at_builtin; clear T3; refine wpList_append_sl (E := elInt) rfl _ _ rfl w4.heap.size _ _ ([] ++ L) rfl O5.out _ H rfl (U2.out.below (below_trans B4.out C5.out)) (by have := HFW.out; omega) C5.out.size ?_; intro v6 w6 hown6 hgrow6; have I6 := hidq (show Is w6 v6 (L ++ H) from Sl.of_own (E := elInt) hown6 HLF.out); have C6 := hidq (C5.out.grown hgrow6 C5.out.size (fun q hq => (O5.out.lt q hq).1)); clear hown6 hgrow6) | (go_at_call 12; clear T4; refine (kall_any HA2.out _ (U1.out.below (below_trans B4.out C6.out)) I6.out).mono ?_; rintro rr w7 ⟨v7, rfl, ho7, hb7⟩; have hI7 : Is w7 v7 Kb := Sl.of_own (E := elInt) ho7 (all_fit HA2.out); obtain ⟨a7, c7, rfl, _, _, z7⟩ := hI7.form; have I7 := hidq hI7; have Z7 := hidq z7; have C7 := hidq (below_trans C6.out hb7); have B7 := hidq (below_trans B4.out (below_trans C6.out hb7)); clear hI7 z7 ho7 hb7) | (at_builtin; clear T5; refine wpList_append_sl (E := elInt) rfl _ _ rfl w7.heap.size _ _ [] rfl (World.ownsRow_nil _ _ _ _) _ H rfl (U2.out.below B7.out) (by have := HFW.out; omega) (Nat.le_refl _) ?_; intro v8 w8 hown8 hgrow8; have O8 := hidq hown8; have D8 := hidq ((Below.refl _ _).grown hgrow8 (Nat.le_refl _) (fun q hq => by cases hq) : Below w7.heap.size w7 w8); clear hown8 hgrow8) | (at_builtin; refine wpList_append_sl (E := elInt) rfl _ _ rfl w7.heap.size _ _ ([] ++ H) rfl O8.out _ L rfl (U3.out.below (below_trans B7.out D8.out)) (by have := HFW.out; omega) D8.out.size ?_; intro v9 w9 hown9 hgrow9; have I9 := hidq (show Is w9 v9 (H ++ L) from Sl.of_own (E := elInt) hown9 (fun x hx => HLF.out x (by rcases List.mem_append.1 hx with h | h <;> simp [h]))); have D9 := hidq (D8.out.grown hgrow9 D8.out.size (fun q hq => (O8.out.lt q hq).1)); clear hown9 hgrow9) | (go_at_call 12; refine (kall_any HA3.out _ (U1.out.below (below_trans B7.out D9.out)) I9.out).mono ?_; rintro rr w10 ⟨v10, rfl, ho10, hb10⟩; have hI10 : Is w10 v10 Kb := Sl.of_own (E := elInt) ho10 (all_fit HA3.out); obtain ⟨a10, c10, rfl, _, _, _⟩ := hI10.form; have I10 := hidq hI10; have D10 := hidq (below_trans D9.out hb10); clear hI10 ho10 hb10) | (go_at_call 20; refine (sameInts_eq (r := true) (decide_eq_true rfl) _ (I7.out.below D10.out) I10.out).mono ?_; rintro rr w11 ⟨rfl, hb11⟩; have D11 := hidq (below_trans D10.out hb11); clear hb11))
        have HIA := hidq (I4.out.below (below_trans C7.out D11.out))
        have HIB := hidq (I7.out.below D11.out)
        have HBE := hidq (below_trans B7.out D11.out)
        generalize hna : Ka.length = na at *
        have HNA := hidq hna
        generalize hnb : Kb.length = nb at *
        have HNB := hidq hnb
        clear hna hnb I4 I7 I10 I6 I9 D10 D11 C7 C6 C5 D8 D9 O5 O8
        go_loop [82, 16] (fun s t => ∃ j k : Nat, j ≤ na ∧ k ≤ nb ∧ s = .int .i64 j ∧ t = .int .i64 k ∧ ∀ (j' p : Nat) (x : Int), j ≤ j' → Ka[j']? = some x → Kb[p]? = some x → k ≤ p) (fun s _ => na - (intOf s).toNat)
        case atStart => exact ⟨0, 0, by omega, by omega, rfl, rfl, fun _ _ _ _ _ _ => by omega⟩
        case round =>
          obtain ⟨j, k, hj, hk, rfl, rfl, hinv⟩ := hrel
          have HINV := hidq hinv
          clear hinv
          by_cases hlt : j < na
          · obtain ⟨b4, o4, rfl⟩ := Z4.out (by have := HIA.out.form; obtain ⟨_, _, e, h1, _⟩ := this; simp only [Value.slice.injEq] at e; have := HNA.out; omega)
            obtain ⟨x, hx⟩ : ∃ x, Ka[j]? = some x := ⟨_, List.getElem?_eq_getElem (by rw [HNA.out]; exact hlt)⟩
            have cx := Is.cellq HIA.out hx
            obtain ⟨p, hp, ep⟩ := List.getElem_of_mem (HSUB.out x (List.mem_of_getElem? hx))
            have hpb : Kb[p]? = some x := by rw [List.getElem?_eq_getElem hp, ep]
            have hkp : k ≤ p := HINV.out j p x (Nat.le_refl _) hx hpb
            have hpn : p < nb := by rw [HNB.out] at hp; exact hp
            obtain ⟨b7, o7, rfl⟩ := Z7.out (by have := HIB.out.form; obtain ⟨_, _, e, h1, _⟩ := this; simp only [Value.slice.injEq] at e; have := HNB.out; omega)
            have HPB := hidq hpb
            have HX := hidq hx
            clear hx hpb hp ep
            go_wp2
            go_loop [16] (fun t => ∃ k : Nat, k ≤ p ∧ t = .int .i64 k) (fun t => nb - (intOf t).toNat)
            case atStart => exact ⟨k, hkp, rfl⟩
            case round =>
              obtain ⟨k, hk', rfl⟩ := hrel
              have hkn : k < nb := by omega
              have hkni : (k : Int) < nb := by omega
              obtain ⟨y, hy⟩ : ∃ y, Kb[k]? = some y := ⟨_, List.getElem?_eq_getElem (by rw [HNB.out]; exact hkn)⟩
              have cy := Is.cellq HIB.out hy
              by_cases hkp' : k < p
              · have hyx : y < x := rising_lt HBR.out hy HPB.out hkp'
                clear hy
                go_wp2
                go_round
                case rel => exact ⟨k + 1, by omega, by go_num⟩
                case measure => simp [intOf]; omega
              · obtain rfl : k = p := by omega
                have hyx : y = x := by
                  have := HPB.out
                  rw [hy] at this
                  exact Option.some.inj this
                subst hyx
                have hknz : ¬ (k : Int) = nb := by omega
                have hkne : ((k : Int) == nb) = false := beq_eq_false_iff_ne.2 hknz
                clear hy
                go_wp2
                go_round
                case rel => exact ⟨j + 1, k, by omega, by omega, by go_num, rfl, fun j' p' z h1 h2 h3 => by
                  have := rising_lt HAR.out HX.out h2 (by omega)
                  have := rising_le HBR.out HPB.out h3 this
                  omega⟩
                case measure => simp [intOf]; omega
          · go_wp2
            go_ret
            exact ⟨rfl, HBE.out⟩
      · clear hA0 hA1 hA2
        go_enter Try.func6, Try.ntmps6
        go_wp2_with (first | (go_at_call 10; refine (klive_any _).mono ?_; rintro rr w1 ⟨rfl, hb1⟩; have B1 := hidq hb1; have sz1 := hb1.size; clear hb1) | (go_at_call 11; refine (few2_yes HFE.out _ ((U1.out.below B1.out).alloc _) (iss_two w1 _ (by simp) _ _ _ H (U2.out.below B1.out) _ _ _ L (U3.out.below B1.out))).mono ?_; rintro rr w2 ⟨rfl, hw2⟩; subst w2; have B2 := hidq (fun o => below_one (o := o) B1.out)) | (go_at_call 12; clear T0; refine (kall_any HA0.out _ (U1.out.below (B2.out _)) (Sl.nil elInt _)).mono ?_; rintro rr w3 ⟨v30, rfl, ho3, hb3⟩; obtain ⟨a30, c30, rfl, _⟩ := own_formq ho3; have B3 := hidq (below_trans (B2.out _) hb3); clear ho3 hb3) | (go_at_call 12; clear T1; refine (kall_any HA1.out _ (U1.out.below B3.out) (U2.out.below B3.out)).mono ?_; rintro rr w4 ⟨v4, rfl, ho4, hb4⟩; have hI4 : Is w4 v4 Ka := Sl.of_own (E := elInt) ho4 (all_fit HA1.out); obtain ⟨a4, c4, rfl, _, _, z4⟩ := hI4.form; have I4 := hidq hI4; have Z4 := hidq z4; have B4 := hidq (below_trans B3.out hb4); have sz4 := B4.out.size; clear hI4 z4 ho4 hb4) | (at_builtin; clear T2; refine wpList_append_sl (E := elInt) rfl _ _ rfl w4.heap.size _ _ [] rfl (World.ownsRow_nil _ _ _ _) _ L rfl (U3.out.below B4.out) (by have := HFW.out; omega) (Nat.le_refl _) ?_; intro v5 w5 hown5 hgrow5; have O5 := hidq hown5; have C5 := hidq ((Below.refl _ _).grown hgrow5 (Nat.le_refl _) (fun q hq => by cases hq) : Below w4.heap.size w4 w5); clear hown5 hgrow5) | (at_builtin; clear T3; refine wpList_append_sl (E := elInt) rfl _ _ rfl w4.heap.size _ _ ([] ++ L) rfl O5.out _ H rfl (U2.out.below (below_trans B4.out C5.out)) (by have := HFW.out; omega) C5.out.size ?_; intro v6 w6 hown6 hgrow6; have I6 := hidq (show Is w6 v6 (L ++ H) from Sl.of_own (E := elInt) hown6 HLF.out); have C6 := hidq (C5.out.grown hgrow6 C5.out.size (fun q hq => (O5.out.lt q hq).1)); clear hown6 hgrow6) | (go_at_call 12; clear T4; refine (kall_any HA2.out _ (U1.out.below (below_trans B4.out C6.out)) I6.out).mono ?_; rintro rr w7 ⟨v7, rfl, ho7, hb7⟩; have hI7 : Is w7 v7 Kb := Sl.of_own (E := elInt) ho7 (all_fit HA2.out); obtain ⟨a7, c7, rfl, _, _, z7⟩ := hI7.form; have I7 := hidq hI7; have Z7 := hidq z7; have C7 := hidq (below_trans C6.out hb7); have B7 := hidq (below_trans B4.out (below_trans C6.out hb7)); clear hI7 z7 ho7 hb7) | (at_builtin; clear T5; refine wpList_append_sl (E := elInt) rfl _ _ rfl w7.heap.size _ _ [] rfl (World.ownsRow_nil _ _ _ _) _ H rfl (U2.out.below B7.out) (by have := HFW.out; omega) (Nat.le_refl _) ?_; intro v8 w8 hown8 hgrow8; have O8 := hidq hown8; have D8 := hidq ((Below.refl _ _).grown hgrow8 (Nat.le_refl _) (fun q hq => by cases hq) : Below w7.heap.size w7 w8); clear hown8 hgrow8) | (at_builtin; refine wpList_append_sl (E := elInt) rfl _ _ rfl w7.heap.size _ _ ([] ++ H) rfl O8.out _ L rfl (U3.out.below (below_trans B7.out D8.out)) (by have := HFW.out; omega) D8.out.size ?_; intro v9 w9 hown9 hgrow9; have I9 := hidq (show Is w9 v9 (H ++ L) from Sl.of_own (E := elInt) hown9 (fun x hx => HLF.out x (by rcases List.mem_append.1 hx with h | h <;> simp [h]))); have D9 := hidq (D8.out.grown hgrow9 D8.out.size (fun q hq => (O8.out.lt q hq).1)); clear hown9 hgrow9) | (go_at_call 12; refine (kall_any HA3.out _ (U1.out.below (below_trans B7.out D9.out)) I9.out).mono ?_; rintro rr w10 ⟨v10, rfl, ho10, hb10⟩; have hI10 : Is w10 v10 Kb := Sl.of_own (E := elInt) ho10 (all_fit HA3.out); obtain ⟨a10, c10, rfl, _, _, _⟩ := hI10.form; have I10 := hidq hI10; have D10 := hidq (below_trans D9.out hb10); clear hI10 ho10 hb10) | (go_at_call 20; refine (sameInts_eq (r := true) (decide_eq_true rfl) _ (I7.out.below D10.out) I10.out).mono ?_; rintro rr w11 ⟨rfl, hb11⟩; have D11 := hidq (below_trans D10.out hb11); clear hb11))
        go_ret
        exact ⟨rfl, B7.out⟩
    · clear hA0 hA1 hA2 e2c
      go_enter Try.func6, Try.ntmps6
      go_wp2_with (first | (go_at_call 10; refine (klive_any _).mono ?_; rintro rr w1 ⟨rfl, hb1⟩; have B1 := hidq hb1; have sz1 := hb1.size; clear hb1) | (go_at_call 11; refine (few2_yes HFE.out _ ((U1.out.below B1.out).alloc _) (iss_two w1 _ (by simp) _ _ _ H (U2.out.below B1.out) _ _ _ L (U3.out.below B1.out))).mono ?_; rintro rr w2 ⟨rfl, hw2⟩; subst w2; have B2 := hidq (fun o => below_one (o := o) B1.out)) | (go_at_call 12; clear T0; refine (kall_any HA0.out _ (U1.out.below (B2.out _)) (Sl.nil elInt _)).mono ?_; rintro rr w3 ⟨v30, rfl, ho3, hb3⟩; obtain ⟨a30, c30, rfl, _⟩ := own_formq ho3; have B3 := hidq (below_trans (B2.out _) hb3); clear ho3 hb3) | (go_at_call 12; clear T1; refine (kall_any HA1.out _ (U1.out.below B3.out) (U2.out.below B3.out)).mono ?_; rintro rr w4 ⟨v4, rfl, ho4, hb4⟩; have hI4 : Is w4 v4 Ka := Sl.of_own (E := elInt) ho4 (all_fit HA1.out); obtain ⟨a4, c4, rfl, _, _, z4⟩ := hI4.form; have I4 := hidq hI4; have Z4 := hidq z4; have B4 := hidq (below_trans B3.out hb4); have sz4 := B4.out.size; clear hI4 z4 ho4 hb4) | (at_builtin; clear T2; refine wpList_append_sl (E := elInt) rfl _ _ rfl w4.heap.size _ _ [] rfl (World.ownsRow_nil _ _ _ _) _ L rfl (U3.out.below B4.out) (by have := HFW.out; omega) (Nat.le_refl _) ?_; intro v5 w5 hown5 hgrow5; have O5 := hidq hown5; have C5 := hidq ((Below.refl _ _).grown hgrow5 (Nat.le_refl _) (fun q hq => by cases hq) : Below w4.heap.size w4 w5); clear hown5 hgrow5) | (at_builtin; clear T3; refine wpList_append_sl (E := elInt) rfl _ _ rfl w4.heap.size _ _ ([] ++ L) rfl O5.out _ H rfl (U2.out.below (below_trans B4.out C5.out)) (by have := HFW.out; omega) C5.out.size ?_; intro v6 w6 hown6 hgrow6; have I6 := hidq (show Is w6 v6 (L ++ H) from Sl.of_own (E := elInt) hown6 HLF.out); have C6 := hidq (C5.out.grown hgrow6 C5.out.size (fun q hq => (O5.out.lt q hq).1)); clear hown6 hgrow6) | (go_at_call 12; clear T4; refine (kall_any HA2.out _ (U1.out.below (below_trans B4.out C6.out)) I6.out).mono ?_; rintro rr w7 ⟨v7, rfl, ho7, hb7⟩; have hI7 : Is w7 v7 Kb := Sl.of_own (E := elInt) ho7 (all_fit HA2.out); obtain ⟨a7, c7, rfl, _, _, z7⟩ := hI7.form; have I7 := hidq hI7; have Z7 := hidq z7; have C7 := hidq (below_trans C6.out hb7); have B7 := hidq (below_trans B4.out (below_trans C6.out hb7)); clear hI7 z7 ho7 hb7) | (at_builtin; clear T5; refine wpList_append_sl (E := elInt) rfl _ _ rfl w7.heap.size _ _ [] rfl (World.ownsRow_nil _ _ _ _) _ H rfl (U2.out.below B7.out) (by have := HFW.out; omega) (Nat.le_refl _) ?_; intro v8 w8 hown8 hgrow8; have O8 := hidq hown8; have D8 := hidq ((Below.refl _ _).grown hgrow8 (Nat.le_refl _) (fun q hq => by cases hq) : Below w7.heap.size w7 w8); clear hown8 hgrow8) | (at_builtin; refine wpList_append_sl (E := elInt) rfl _ _ rfl w7.heap.size _ _ ([] ++ H) rfl O8.out _ L rfl (U3.out.below (below_trans B7.out D8.out)) (by have := HFW.out; omega) D8.out.size ?_; intro v9 w9 hown9 hgrow9; have I9 := hidq (show Is w9 v9 (H ++ L) from Sl.of_own (E := elInt) hown9 (fun x hx => HLF.out x (by rcases List.mem_append.1 hx with h | h <;> simp [h]))); have D9 := hidq (D8.out.grown hgrow9 D8.out.size (fun q hq => (O8.out.lt q hq).1)); clear hown9 hgrow9) | (go_at_call 12; refine (kall_any HA3.out _ (U1.out.below (below_trans B7.out D9.out)) I9.out).mono ?_; rintro rr w10 ⟨v10, rfl, ho10, hb10⟩; have hI10 : Is w10 v10 Kb := Sl.of_own (E := elInt) ho10 (all_fit HA3.out); obtain ⟨a10, c10, rfl, _, _, _⟩ := hI10.form; have I10 := hidq hI10; have D10 := hidq (below_trans D9.out hb10); clear hI10 ho10 hb10) | (go_at_call 20; refine (sameInts_eq (r := true) (decide_eq_true rfl) _ (I7.out.below D10.out) I10.out).mono ?_; rintro rr w11 ⟨rfl, hb11⟩; have D11 := hidq (below_trans D10.out hb11); clear hb11))
      go_ret
      exact ⟨rfl, B7.out⟩
  · have HFE := hidq hfe
    clear hfe
    go_enter Try.func6, Try.ntmps6
    go_wp2_with (first | (go_at_call 10; refine (klive_any _).mono ?_; rintro rr w1 ⟨rfl, hb1⟩; have B1 := hidq hb1; have sz1 := hb1.size; clear hb1) | (go_at_call 11; refine (few2_no HFE.out _ ((U1.out.below B1.out).alloc _) (iss_two w1 _ (by simp) _ _ _ H (U2.out.below B1.out) _ _ _ L (U3.out.below B1.out))).mono ?_; rintro rr w2 ⟨rfl, hw2⟩; subst w2))
    go_ret
    exact ⟨rfl, below_one B1.out⟩
end Go.Proofs.Ythkkclhjpgkhaaa
