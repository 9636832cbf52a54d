/-
  The walk of KnowDoes at every input. Conditions: the slices hold terms, and places.
-/
import Derived.Test.YthkkclhjpgkhaaaL61
namespace Go.Proofs.Ythkkclhjpgkhaaa
open Go.RowKit
set_option maxRecDepth 100000 in
set_option maxHeartbeats 8000000 in
theorem knowDoes_walk (A : List M.Tm) (v1 : Value) (H : List Int) (v2 : Value) (S : List Int) (v3 : Value) (i : Int) (w : World) (u1 : Ts w v1 A) (u2 : Is w v2 H) (u3 : Is w v3 S) (hi1 : -9223372036854775808 ≤ i) (hi2 : i ≤ 9223372036854775807) :
    Calls Try.prog 3 #[v1, v2, v3, .int .i64 i] w fun e w' => e = .returned (.bool true) ∧ Below w.heap.size w w' := by
  obtain ⟨a2, c2, rfl, p1, p2, p4⟩ := u2.form
  obtain ⟨a3, c3, rfl, q1, q2, q4⟩ := u3.form
  have HFI := hidq (show M.fitI i from ⟨hi1, hi2⟩)
  have HHF := hidq u2.oks
  have U1 := hidq u1
  have U2 := hidq u2
  have U3 := hidq u3
  have T1 := hidq trivial
  clear u1 u2 u3 p4 q4
  by_cases hfe : M.Few2 A H S
  · have HFE := hidq hfe
    have HFW := hidq (show H.length ≤ 65545 by
      have f1 := hfe.2.1
      unfold M.Fw at f1
      omega)
    obtain ⟨K, e1, hA1⟩ := allA A H
    obtain ⟨r2, e2, hK⟩ := knwA A H i
    obtain ⟨r3, e3, hS⟩ := shtA A S
    obtain ⟨r4, e4, hC⟩ := chnA A H S
    have HA1 := hidq hA1
    have HK := hidq hK
    have HS := hidq hS
    have HC := hidq hC
    have hkl := all_len hA1
    have HKB := hidq (show ∀ x ∈ K, 0 ≤ x ∧ x < 65536 from fun x hx => by
      rcases hA1 with ⟨_, h1, h2, f, hf, rfl⟩ | ⟨_, _, rfl⟩
      · obtain ⟨j, hj, _, rfl⟩ := (M.outL_mem _ _ _).1 hx
        have := h1.1
        omega
      · cases hx)
    have HKF := hidq (all_fit hA1)
    clear hfe hA1 hK hS hC
    generalize hkn : K.length = kn at *
    have HKN := hidq hkn
    clear hkn
    generalize hhn : H.length = hn at *
    generalize hsn : S.length = sn at *
    go_enter Try.func3, Try.ntmps3
    go_upto_region 13 with (first | (go_at_call 10; refine (klive_any _).mono ?_; rintro rr w1 ⟨rfl, hb1⟩; have B1 := hidq hb1; have sz1 := hb1.size; clear hb1) | (go_at_call 11; refine (few2_yes HFE.out _ ((U1.out.below B1.out).alloc _) (iss_two w1 _ (by simp) _ _ _ H (U2.out.below B1.out) _ _ _ S (U3.out.below B1.out))).mono ?_; rintro rr w2 ⟨rfl, hw2⟩; subst w2; have B2 := hidq (fun o => below_one (o := o) B1.out)) | (at_builtin; refine wpList_append_sl (E := elInt) rfl _ _ rfl w.heap.size _ _ [] rfl (World.ownsRow_nil _ _ _ _) _ H rfl (U2.out.below (B2.out _)) (by have := HFW.out; omega) (by simp; omega) ?_; intro v3 w3 hown3 hgrow3; have IW := hidq (show Is w3 v3 H from Sl.of_own (E := elInt) hown3 HHF.out); have B3 := hidq ((B2.out _).grown hgrow3 (by simp; omega) (fun q hq => by cases hq)); clear hown3 hgrow3) | (go_at_call 12; refine (kall_any HA1.out _ (U1.out.below B3.out) (U2.out.below B3.out)).mono ?_; rintro rr w4 ⟨v4, rfl, ho4, hb4⟩; obtain ⟨ak, ck, rfl, zk⟩ := own_formq ho4; rw [HKN.out] at ho4 zk ⊢; have O4 := hidq ho4; have ZK := hidq zk; have C4 := hidq hb4; have B4 := hidq (below_trans B3.out hb4); clear ho4 hb4 zk) | (go_at_call 13; refine (r6all_any HA1.out _ (U1.out.below B4.out) (U2.out.below B4.out)).mono ?_; rintro rr w5 ⟨v5, rfl, ho5, hb5⟩; have I5 := hidq (show Is w5 v5 K from Sl.of_own (E := elInt) ho5 (all_fit HA1.out)); have D5 := hidq hb5; have B5 := hidq (below_trans B4.out hb5); clear ho5 hb5) | (go_at_call 14; refine (kknows_any HFI.out HK.out _ (U1.out.below B5.out) (U2.out.below B5.out)).mono ?_; rintro rr w6 ⟨rfl, hb6⟩; have D6 := hidq hb6; have B6 := hidq (below_trans B5.out hb6); clear hb6) | (go_at_call 15; refine (r6knows_any HK.out _ (U1.out.below B6.out) (U2.out.below B6.out)).mono ?_; rintro rr w7 ⟨rfl, hb7⟩; have D7 := hidq (below_trans D6.out hb7); have B7 := hidq (below_trans B6.out hb7); clear hb7) | (go_at_call 16; refine (kshut_any HS.out _ (U1.out.below B7.out) (U3.out.below B7.out)).mono ?_; rintro rr w8 ⟨rfl, hb8⟩; have D8 := hidq (below_trans D7.out hb8); have B8 := hidq (below_trans B7.out hb8); clear hb8) | (go_at_call 17; refine (r6shut_any HS.out _ (U1.out.below B8.out) (U3.out.below B8.out)).mono ?_; rintro rr w9 ⟨rfl, hb9⟩; have D9 := hidq (below_trans D8.out hb9); have B9 := hidq (below_trans B8.out hb9); clear hb9) | (go_at_call 18; refine (kis_any HC.out _ (U1.out.below B9.out) (U2.out.below B9.out) (U3.out.below B9.out)).mono ?_; rintro rr w10 ⟨rfl, hb10⟩; have D10 := hidq (below_trans D9.out hb10); have B10 := hidq (below_trans B9.out hb10); clear hb10) | (go_at_call 19; refine (r6is_any HC.out _ (U1.out.below B10.out) (U2.out.below B10.out) (U3.out.below B10.out)).mono ?_; rintro rr w11 ⟨rfl, hb11⟩; have D11 := hidq (below_trans D10.out hb11); have B11 := hidq (below_trans B10.out hb11); clear hb11))
    have IK4 := hidq (fun X (hb : Below w4.heap.size w4 X) => (show Is X (.slice ak kn ck) K from Sl.of_own (E := elInt) (own_keptq O4.out hb) HKF.out))
    go_wp2_with (first | (go_at_call 20; clear T1; refine (sameInts_eq (r := true) (decide_eq_true rfl) _ (IK4.out _ (below_trans D5.out D11.out)) (I5.out.below D11.out)).mono ?_; rintro rr w12 ⟨rfl, hb12⟩; have D12 := hidq (below_trans D5.out (below_trans D11.out hb12)); clear hb12))
    have HO0 := hidq (own_keptq O4.out D12.out)
    have HC0 := hidq (below_trans C4.out D12.out)
    clear O4 C4 D5 D6 D7 D8 D9 D10 D11 D12 I5 IK4 B4 B5 B6 B7 B8 B9 B10 B11
    go_loopw [131] (fun x wr => ∃ (k : Nat) (L : List Int), k ≤ kn ∧ x = .int .i64 k ∧ wr.ownsRow w3.heap.size 3 1 (.slice ak kn ck) kn (elInt.cells L) ∧ (∀ j, k ≤ j → L[j]? = K[j]?) ∧ Below w3.heap.size w3 wr) (fun x _ => kn - (intOf x).toNat)
    case atStart => exact ⟨0, K, by omega, rfl, HO0.out, fun _ _ => rfl, HC0.out⟩
    case round =>
      obtain ⟨k, L, hk, rfl, hown, hL, hbl⟩ := hrel
      have HBL := hidq hbl
      clear HO0 HC0
      by_cases hlt : k < kn
      · obtain ⟨g, rfl, _⟩ := ZK.out (by omega)
        obtain ⟨x, hx⟩ : ∃ x, K[k]? = some x := ⟨_, List.getElem?_eq_getElem (by rw [HKN.out]; exact hlt)⟩
        have hLx : L[k]? = some x := (hL k (Nat.le_refl _)).trans hx
        have hxb := HKB.out x (List.mem_of_getElem? hx)
        have c0 := own_cellq hown hlt hLx
        have f0 := hown.frozenAt k
        have hw1 := wrap64 (x := x + 1) (by omega) (by omega)
        have HST := hidq (own_storeq hown k (x + 1))
        have HLN := hidq (show ∀ j, k + 1 ≤ j → (L.set k (x + 1))[j]? = K[j]? from fun j hj => by rw [List.getElem?_set_ne (by omega)]; exact hL j (by omega))
        have HBS := hidq (show Below w3.heap.size w3 (wr.setCell ⟨g, k, none⟩ (.int .i64 (x + 1))) from hbl.setCell (hown.lt g rfl).1 _)
        have hki : (k : Int) < kn := by omega
        clear hx hLx hxb hown hL hbl
        go_wp2
        go_roundw
        case rel => exact ⟨k + 1, _, by omega, by go_num, HST.out, HLN.out, HBS.out⟩
        case measure => simp [intOf]; omega
      · clear hown hL hbl
        go_wp2_with (first | (go_at_call 20; refine (sameInts_eq (r := true) (decide_eq_true rfl) _ (U2.out.below (below_trans B3.out HBL.out)) (IW.out.below HBL.out)).mono ?_; rintro rr w13 ⟨rfl, hb13⟩; have B13 := hidq (below_trans B3.out (below_trans HBL.out hb13)); clear hb13))
        go_ret
        exact ⟨rfl, B13.out⟩
  · have HFE := hidq hfe
    clear hfe
    go_enter Try.func3, Try.ntmps3
    go_wp2_with (first | (go_at_call 10; refine (klive_any _).mono ?_; rintro rr w1 ⟨rfl, hb1⟩; have B1 := hidq hb1; have sz1 := hb1.size; clear hb1) | (go_at_call 11; refine (few2_no HFE.out _ ((U1.out.below B1.out).alloc _) (iss_two w1 _ (by simp) _ _ _ H (U2.out.below B1.out) _ _ _ S (U3.out.below B1.out))).mono ?_; rintro rr w2 ⟨rfl, hw2⟩; subst w2))
    go_ret
    exact ⟨rfl, below_one B1.out⟩
end Go.Proofs.Ythkkclhjpgkhaaa
