/-
  The walk of KnowLeast at every input. Conditions: the slices hold terms, and places.
-/
import Derived.Test.YthkkclhjpgkhaaaL61
namespace Go.Proofs.Ythkkclhjpgkhaaa
open Go.RowKit
set_option maxRecDepth 100000 in
set_option maxHeartbeats 8000000 in
theorem knowLeast_walk (A : List M.Tm) (v1 : Value) (H : List Int) (v2 : Value) (S : List Int) (v3 : Value) (w : World) (u1 : Ts w v1 A) (u2 : Is w v2 H) (u3 : Is w v3 S) :
    Calls Try.prog 5 #[v1, v2, v3] w fun e w' => e = .returned (.bool true) ∧ Below w.heap.size w w' := by
  obtain ⟨a1, c1, rfl, _, _, _⟩ := u1.form
  obtain ⟨a2, c2, rfl, p1, p2, p4⟩ := u2.form
  obtain ⟨a3, c3, rfl, q1, q2, q4⟩ := u3.form
  have hm2 : H.length ≤ maxLen := by omega
  have hm3 : S.length ≤ maxLen := by omega
  unfold maxLen at hm2 hm3
  have U1 := hidq u1
  have U2 := hidq u2
  have U3 := hidq u3
  have HP4 := hidq p4
  have HQ4 := hidq q4
  have T1 := hidq trivial
  have T2 := hidq trivial
  clear u1 u2 u3 p4 q4
  obtain ⟨i0, hi, hz0, hz1, hz2⟩ := info_partsq Try.infoBoolz
  by_cases hfe : M.Few2 A H S
  · have HFE := hidq hfe
    obtain ⟨K, e1, hA1⟩ := allA A H
    have HA1 := hidq hA1
    have e1c : e1 = 0 ∨ e1 = 1 := by rcases hA1 with h | h; exact .inl h.1; exact .inr h.1
    have hkl := all_len hA1
    rcases e1c with rfl | rfl
    · obtain ⟨hak, hsk, hokK⟩ := all_again hA1
      obtain ⟨am, _, al, ab, aok, aH⟩ := all_mem hA1
      have HAK := hidq hak
      have HSK := hidq hsk
      have HAM := hidq am
      have HAB := hidq ab
      have HHB := hidq aH.2
      have hn40 := aok.1
      clear hak hsk hokK am al ab aok aH hfe hA1
      generalize hn : A.length = n at *
      have HN := hidq hn
      clear hn
      generalize hkn : K.length = kn at *
      have HKN := hidq hkn
      clear hkn
      generalize hhn : H.length = hn at *
      have HHN := hidq hhn
      clear hhn
      generalize hsn : S.length = sn at *
      have HSN := hidq hsn
      clear hsn
      go_enter Try.func5, Try.ntmps5
      go_wp2_with (first | (go_at_call 10; refine (klive_any _).mono ?_; rintro rr w1 ⟨rfl, hb1⟩; have B1 := hidq hb1; have sz1 := hb1.size; clear hb1) | (go_at_call 11; refine (few2_yes HFE.out _ ((U1.out.below B1.out).alloc _) (iss_two w1 _ (by simp) _ _ _ H (U2.out.below B1.out) _ _ _ S (U3.out.below B1.out))).mono ?_; rintro rr w2 ⟨rfl, hw2⟩; subst w2; have B2 := hidq (fun o => below_one (o := o) B1.out)) | (go_at_call 12; clear T1; refine (kall_any HA1.out _ (U1.out.below (B2.out _)) (U2.out.below (B2.out _))).mono ?_; rintro rr w3 ⟨v3, rfl, ho3, hb3⟩; have hI3 : Is w3 v3 K := Sl.of_own (E := elInt) ho3 (all_fit HA1.out); obtain ⟨ak, ck, rfl, zk1, _, zk⟩ := hI3.form; rw [HKN.out] at hI3 zk1 ⊢; have I3 := hidq hI3; have ZK := hidq zk; have B3 := hidq (below_trans (B2.out _) hb3); clear hI3 zk ho3 hb3) | (go_at_call 16; clear T2; refine (kshut_any HSK.out _ (U1.out.below B3.out) I3.out).mono ?_; rintro rr w4 ⟨rfl, hb4⟩; have C4 := hidq hb4; clear hb4) | (go_at_call 12; refine (kall_any HAK.out _ (U1.out.below (below_trans B3.out C4.out)) (I3.out.below C4.out)).mono ?_; rintro rr w5 ⟨v5, rfl, ho5, hb5⟩; have hI5 : Is w5 v5 K := Sl.of_own (E := elInt) ho5 (all_fit HA1.out); obtain ⟨a5, c5, rfl, _, _, _⟩ := hI5.form; have I5 := hidq hI5; have C5 := hidq (below_trans C4.out hb5); clear hI5 ho5 hb5) | (go_at_call 20; refine (sameInts_eq (r := true) (decide_eq_true rfl) _ I5.out (I3.out.below C5.out)).mono ?_; rintro rr w6 ⟨rfl, hb6⟩; have I6 := hidq (I3.out.below (below_trans C5.out hb6)); have B6 := hidq (below_trans B3.out (below_trans C5.out hb6)); clear hb6) | (at_make; refine wpList_make_full _ rfl _ _ 37 rfl w.heap.size 4 i0 (.bool false) 1 Try.underlying37 hi hz0 hz1 _ _ _ _ n rfl rfl (by first | rfl | omega) (by first | rfl | omega) ?b2 ?b3 ?b4 ?_))
      case b2 => (try rw [hz2]); omega
      case b3 => unfold maxLen; omega
      case b4 => exact B6.out.size
      intro w7 hown hgrow
      rw [elBool_zeros, M.row_none] at hown
      have C7 : Below w6.heap.size w6 w7 := (Below.refl _ _).grown hgrow (Nat.le_refl _) (fun k hk => by cases hk)
      have hg7 := (hown.lt _ rfl).2
      have sz6 := B6.out.size
      generalize hg1 : w6.heap.size = g1 at *
      have HS := hidq (⟨hown, C7⟩ : w7.ownsRow w.heap.size 4 1 (.slice (some ⟨g1, 0, none⟩) n n) n (elBool.cells (M.rowB (fun j => decide ((j : Int) ∈ ([] : List Int))) n)) ∧ Below g1 w6 w7)
      have HI6 := hidq (fun X (hb : Below g1 w6 X) => I6.out.below (by rw [hg1]; exact hb))
      have HB6 := hidq (fun X (hb : Below g1 w6 X) => below_trans B6.out (by rw [hg1]; exact hb))
      clear hown hgrow C7 hg1 I6 I5 I3 C5 C4 B6
      go_wp2
      go_loopw [83] (fun x wr => ∃ k : Nat, k ≤ kn ∧ x = .int .i64 k ∧ wr.ownsRow w.heap.size 4 1 (.slice (some ⟨g1, 0, none⟩) n n) n (elBool.cells (M.rowB (fun j => decide ((j : Int) ∈ K.take k)) n)) ∧ Below g1 w6 wr) (fun x _ => kn - (intOf x).toNat)
      case atStart => exact ⟨0, by omega, rfl, HS.out.1, HS.out.2⟩
      case round =>
        obtain ⟨k, hk, rfl, hown, hbl⟩ := hrel
        have HOW := hidq hown
        have HBL := hidq hbl
        clear HS
        by_cases hlt : k < kn
        · obtain ⟨bk, ok, rfl⟩ := ZK.out (by omega)
          obtain ⟨x, hx⟩ : ∃ x, K[k]? = some x := ⟨_, List.getElem?_eq_getElem (by rw [HKN.out]; exact hlt)⟩
          have cx := Is.cellq (HI6.out _ hbl) hx
          have hxb := HAB.out x (List.mem_of_getElem? hx)
          obtain ⟨p, rfl⟩ : ∃ p : Nat, x = p := ⟨x.toNat, by omega⟩
          have hpn : p < n := by have := HN.out; omega
          have hpi : (p : Int) < n := by omega
          have c0 := ownB_cell hown hpn
          have f0 := hown.frozenAt p
          have HST := hidq (mark_store (p := p) hown)
          rw [← take_next hx] at HST
          have HBS := hidq (show Below g1 w6 (wr.setCell ⟨g1, p, none⟩ (.bool true)) from hbl.setCell (Nat.le_refl _) _)
          clear hx hxb hown hbl
          go_wp2
          go_roundw
          case rel => exact ⟨k + 1, by omega, by go_num, HST.out, HBS.out⟩
          case measure => simp [intOf]; omega
        · have e : K.take k = K := List.take_of_length_le (by rw [HKN.out]; omega)
          rw [e] at HOW
          have HIK := hidq (HI6.out _ hbl)
          have HBW := hidq (HB6.out _ hbl)
          clear hown hbl e
          go_wp2
          go_loop [93] (fun x => ∃ k : Nat, k ≤ hn ∧ x = .int .i64 k) (fun x => hn - (intOf x).toNat)
          case atStart => exact ⟨0, by omega, rfl⟩
          case round =>
            obtain ⟨m, hm, rfl⟩ := hrel
            by_cases hlm : m < hn
            · obtain ⟨b2, o2, rfl⟩ := HP4.out (by omega)
              obtain ⟨x, hx⟩ : ∃ x, H[m]? = some x := ⟨_, List.getElem?_eq_getElem (by rw [HHN.out]; exact hlm)⟩
              have cx := Is.cellq (U2.out.below HBW.out) hx
              have hxb := HHB.out x (List.mem_of_getElem? hx)
              obtain ⟨p, rfl⟩ : ∃ p : Nat, x = p := ⟨x.toNat, by have := hxb.1; omega⟩
              have hpn : p < n := by have := hxb.2; have := HN.out; omega
              have hpi : (p : Int) < n := by omega
              have c0 := ownB_cell HOW.out hpn
              rw [decide_eq_true ((HAM.out p).2 (.base (List.mem_of_getElem? hx)))] at c0
              clear hx hxb
              go_wp2
              go_round
              case rel => exact ⟨m + 1, by omega, by go_num⟩
              case measure => simp [intOf]; omega
            · obtain ⟨r, er, hS⟩ := shtA A S
              have HS2 := hidq hS
              rcases hS with ⟨rfl, _, s2, hr⟩ | ⟨rfl, _, rfl⟩
              · cases r with
                | true =>
                  have hsub := hr.1 rfl
                  have HSB := hidq s2.2
                  have HLE := hidq (show (∀ h ∈ H, h ∈ S) → ∀ x ∈ K, x ∈ S from fun h x hx => ((HAM.out x).1 hx).least h hsub)
                  clear hr hsub s2
                  go_wp2_with (first | (go_at_call 16; refine (kshut_any HS2.out _ (U1.out.below HBW.out) (U3.out.below HBW.out)).mono ?_; rintro rr w12 ⟨rfl, hb12⟩; have I12 := hidq (HIK.out.below hb12); have B12 := hidq (below_trans HBW.out hb12); clear hb12) | (at_make; refine wpList_make_full _ rfl _ _ 37 rfl w.heap.size 4 i0 (.bool false) 1 Try.underlying37 hi hz0 hz1 _ _ _ _ n rfl rfl (by first | rfl | omega) (by first | rfl | omega) ?b2 ?b3 ?b4 ?_))
                  case b2 => (try rw [hz2]); omega
                  case b3 => unfold maxLen; omega
                  case b4 => exact B12.out.size
                  intro w13 hown hgrow
                  rw [elBool_zeros, M.row_none] at hown
                  have C13 : Below w12.heap.size w12 w13 := (Below.refl _ _).grown hgrow (Nat.le_refl _) (fun k hk => by cases hk)
                  have sz12 := B12.out.size
                  generalize hg2 : w12.heap.size = g2 at *
                  have HS := hidq (⟨hown, C13⟩ : w13.ownsRow w.heap.size 4 1 (.slice (some ⟨g2, 0, none⟩) n n) n (elBool.cells (M.rowB (fun j => decide ((j : Int) ∈ ([] : List Int))) n)) ∧ Below g2 w12 w13)
                  have HI12 := hidq (fun X (hb : Below g2 w12 X) => I12.out.below (by rw [hg2]; exact hb))
                  have HB12 := hidq (fun X (hb : Below g2 w12 X) => below_trans B12.out (by rw [hg2]; exact hb))
                  clear hown hgrow C13 hg2 I12 B12
                  go_wp2
                  go_loopw [121] (fun x wr => ∃ k : Nat, k ≤ sn ∧ x = .int .i64 k ∧ wr.ownsRow w.heap.size 4 1 (.slice (some ⟨g2, 0, none⟩) n n) n (elBool.cells (M.rowB (fun j => decide ((j : Int) ∈ S.take k)) n)) ∧ Below g2 w12 wr) (fun x _ => sn - (intOf x).toNat)
                  case atStart => exact ⟨0, by omega, rfl, HS.out.1, HS.out.2⟩
                  case round =>
                    obtain ⟨k, hk, rfl, hown, hbl⟩ := hrel
                    have HOW2 := hidq hown
                    clear HS
                    by_cases hlt : k < sn
                    · obtain ⟨b3, o3, rfl⟩ := HQ4.out (by omega)
                      obtain ⟨x, hx⟩ : ∃ x, S[k]? = some x := ⟨_, List.getElem?_eq_getElem (by rw [HSN.out]; exact hlt)⟩
                      have cx := Is.cellq (U3.out.below (HB12.out _ hbl)) hx
                      have hxb := HSB.out x (List.mem_of_getElem? hx)
                      obtain ⟨p, rfl⟩ : ∃ p : Nat, x = p := ⟨x.toNat, by have := hxb.1; omega⟩
                      have hpn : p < n := by have := hxb.2; have := HN.out; omega
                      have hpi : (p : Int) < n := by omega
                      have c0 := ownB_cell hown hpn
                      have f0 := hown.frozenAt p
                      have HST := hidq (mark_store (p := p) hown)
                      rw [← take_next hx] at HST
                      have HBS := hidq (show Below g2 w12 (wr.setCell ⟨g2, p, none⟩ (.bool true)) from hbl.setCell (Nat.le_refl _) _)
                      clear hx hxb hown hbl
                      go_wp2
                      go_roundw
                      case rel => exact ⟨k + 1, by omega, by go_num, HST.out, HBS.out⟩
                      case measure => simp [intOf]; omega
                    · have e : S.take k = S := List.take_of_length_le (by rw [HSN.out]; omega)
                      rw [e] at HOW2
                      have HIK2 := hidq (HI12.out _ hbl)
                      have HBW2 := hidq (HB12.out _ hbl)
                      clear hown hbl e
                      go_wp2
                      go_loop [131] (fun x => ∃ k : Nat, k ≤ hn ∧ x = .int .i64 k ∧ ∀ y ∈ H.take k, y ∈ S) (fun x => hn - (intOf x).toNat)
                      case atStart => exact ⟨0, by omega, rfl, by simp⟩
                      case round =>
                        obtain ⟨m, hm, rfl, hall⟩ := hrel
                        have HALL := hidq hall
                        clear hall
                        by_cases hlm : m < hn
                        · obtain ⟨b2, o2, rfl⟩ := HP4.out (by omega)
                          obtain ⟨x, hx⟩ : ∃ x, H[m]? = some x := ⟨_, List.getElem?_eq_getElem (by rw [HHN.out]; exact hlm)⟩
                          have cx := Is.cellq (U2.out.below HBW2.out) hx
                          have hxb := HHB.out x (List.mem_of_getElem? hx)
                          obtain ⟨p, rfl⟩ : ∃ p : Nat, x = p := ⟨x.toNat, by have := hxb.1; omega⟩
                          have hpn : p < n := by have := hxb.2; have := HN.out; omega
                          have hpi : (p : Int) < n := by omega
                          have c0 := ownB_cell HOW2.out hpn
                          have HTN := hidq (take_next hx)
                          clear hx hxb
                          by_cases hps : (p : Int) ∈ S
                          · rw [decide_eq_true hps] at c0
                            have HPS := hidq hps
                            clear hps
                            go_wp2
                            go_round
                            case rel => exact ⟨m + 1, by omega, by go_num, fun y hy => by
                              rw [HTN.out, List.mem_append, List.mem_singleton] at hy
                              rcases hy with hy | rfl
                              · exact HALL.out y hy
                              · exact HPS.out⟩
                            case measure => simp [intOf]; omega
                          · rw [decide_eq_false hps] at c0
                            clear hps
                            go_wp2
                            go_ret
                            exact ⟨rfl, HBW2.out⟩
                        · have HKS := hidq (HLE.out fun h hh => HALL.out h (by rw [List.take_of_length_le (by rw [HHN.out]; omega)]; exact hh))
                          go_wp2
                          go_loop [144] (fun x => ∃ k : Nat, k ≤ kn ∧ x = .int .i64 k) (fun x => kn - (intOf x).toNat)
                          case atStart => exact ⟨0, by omega, rfl⟩
                          case round =>
                            obtain ⟨j, hj, rfl⟩ := hrel
                            by_cases hlj : j < kn
                            · obtain ⟨bk, ok, rfl⟩ := ZK.out (by omega)
                              obtain ⟨x, hx⟩ : ∃ x, K[j]? = some x := ⟨_, List.getElem?_eq_getElem (by rw [HKN.out]; exact hlj)⟩
                              have cx := Is.cellq HIK2.out hx
                              have hxb := HAB.out x (List.mem_of_getElem? hx)
                              obtain ⟨p, rfl⟩ : ∃ p : Nat, x = p := ⟨x.toNat, by omega⟩
                              have hpn : p < n := by have := HN.out; omega
                              have hpi : (p : Int) < n := by omega
                              have c0 := ownB_cell HOW2.out hpn
                              rw [decide_eq_true (HKS.out p (List.mem_of_getElem? hx))] at c0
                              clear hx hxb
                              go_wp2
                              go_round
                              case rel => exact ⟨j + 1, by omega, by go_num⟩
                              case measure => simp [intOf]; omega
                            · go_wp2
                              go_ret
                              exact ⟨rfl, HBW2.out⟩
                | false =>
                  clear hr s2
                  go_wp2_with (first | (go_at_call 16; refine (kshut_any HS2.out _ (U1.out.below HBW.out) (U3.out.below HBW.out)).mono ?_; rintro rr w12 ⟨rfl, hb12⟩; have I12 := hidq (HIK.out.below hb12); have B12 := hidq (below_trans HBW.out hb12); clear hb12))
                  go_ret
                  exact ⟨rfl, B12.out⟩
              · go_wp2_with (first | (go_at_call 16; refine (kshut_any HS2.out _ (U1.out.below HBW.out) (U3.out.below HBW.out)).mono ?_; rintro rr w12 ⟨rfl, hb12⟩; have I12 := hidq (HIK.out.below hb12); have B12 := hidq (below_trans HBW.out hb12); clear hb12))
                go_ret
                exact ⟨rfl, B12.out⟩
    · have hk0 : K = [] := by
        rcases hA1 with ⟨h, _⟩ | ⟨_, _, h⟩
        · cases h
        · exact h
      subst hk0
      clear hfe hA1
      go_enter Try.func5, Try.ntmps5
      go_wp2_with (first | (go_at_call 10; refine (klive_any _).mono ?_; rintro rr w1 ⟨rfl, hb1⟩; have B1 := hidq hb1; have sz1 := hb1.size; clear hb1) | (go_at_call 11; refine (few2_yes HFE.out _ ((U1.out.below B1.out).alloc _) (iss_two w1 _ (by simp) _ _ _ H (U2.out.below B1.out) _ _ _ S (U3.out.below B1.out))).mono ?_; rintro rr w2 ⟨rfl, hw2⟩; subst w2; have B2 := hidq (fun o => below_one (o := o) B1.out)) | (go_at_call 12; refine (kall_any HA1.out _ (U1.out.below (B2.out _)) (U2.out.below (B2.out _))).mono ?_; rintro rr w3 ⟨v3, rfl, ho3, hb3⟩; obtain ⟨a30, c30, rfl, _⟩ := own_formq ho3; have B3 := hidq (below_trans (B2.out _) hb3); clear ho3 hb3))
      go_ret
      exact ⟨rfl, B3.out⟩
  · have HFE := hidq hfe
    clear hfe
    go_enter Try.func5, Try.ntmps5
    go_wp2_with (first | (go_at_call 10; refine (klive_any _).mono ?_; rintro rr w1 ⟨rfl, hb1⟩; have B1 := hidq hb1; have sz1 := hb1.size; clear hb1) | (go_at_call 11; refine (few2_no HFE.out _ ((U1.out.below B1.out).alloc _) (iss_two w1 _ (by simp) _ _ _ H (U2.out.below B1.out) _ _ _ S (U3.out.below B1.out))).mono ?_; rintro rr w2 ⟨rfl, hw2⟩; subst w2))
    go_ret
    exact ⟨rfl, below_one B1.out⟩
end Go.Proofs.Ythkkclhjpgkhaaa
