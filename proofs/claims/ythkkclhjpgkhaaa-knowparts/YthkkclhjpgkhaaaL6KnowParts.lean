/-
  The walk of KnowParts at every input. Conditions: the slices hold terms, and places.
-/
import Derived.Test.YthkkclhjpgkhaaaL61
namespace Go.Proofs.Ythkkclhjpgkhaaa
open Go.RowKit
theorem M.thr_of {A : List M.Tm} (hA : M.Ok A) {h : Int} (hp : M.Pl A h) : M.thr A h = true := M.thr_iff.2 ⟨hA, hp.1, hp.2⟩
theorem M.within_rk {A : List M.Tm} (hA : M.Ok A) {h : Int} (hp : M.Pl A h) {i : Nat} (hr : M.Rk A h.toNat 0 i) : (i : Int) ∈ M.withinL A h := by
  unfold M.withinL
  rw [if_pos (M.thr_of hA hp), M.outL_mem]
  have hl : h.toNat < A.length := by have := hp.1; have := hp.2; omega
  exact ⟨i, by have := hr.le hA hl; omega, (M.rkB_iff hA hl (by omega)).2 hr, rfl⟩
theorem M.within_lt {A : List M.Tm} {h : Int} (hp : M.Pl A h) {n : Nat} (hn : A.length = n) : ∀ x ∈ M.withinL A h, 0 ≤ x ∧ x < (n : Int) := by
  intro x hx
  unfold M.withinL at hx
  split at hx
  · obtain ⟨j, hj, _, rfl⟩ := (M.outL_mem _ _ _).1 hx
    have := hp.1
    have := hp.2
    omega
  · cases hx
/-- an atom that is known is within something that one has -/
theorem M.atom_in {A : List M.Tm} (hA : M.Ok A) {H : List Int} (hH : ∀ h ∈ H, M.Pl A h) {i : Nat} (hk : M.Kn A H i) (ha : (M.at_ A i).1 = 1) : (i : Int) ∈ H.flatMap (M.withinL A) := by
  obtain ⟨h, hh, hr⟩ := hk.atom hH i ha (by rw [Int.toNat_natCast]; exact M.Rk.self)
  exact List.mem_flatMap.2 ⟨h, hh, M.within_rk hA (hH h hh) hr⟩
theorem M.part_in {A : List M.Tm} {H : List Int} {i : Nat} (hi : i < A.length) (hk : (M.at_ A i).1 = 2 ∨ (M.at_ A i).1 = 3 ∨ (M.at_ A i).1 = 4) (ha : M.Kn A H (M.at_ A i).2.1) : M.Kn A H i := .shut ⟨by omega, by omega⟩ (.inl ⟨hk, ha⟩)
theorem flat_next {A : List M.Tm} {H : List Int} {k : Nat} {x : Int} (h : H[k]? = some x) : (H.take (k + 1)).flatMap (M.withinL A) = (H.take k).flatMap (M.withinL A) ++ M.withinL A x := by
  rw [take_next h, List.flatMap_append]
  simp
set_option maxRecDepth 100000 in
set_option maxHeartbeats 8000000 in
theorem knowParts_walk (A : List M.Tm) (v1 : Value) (H : List Int) (v2 : Value) (w : World) (u1 : Ts w v1 A) (u2 : Is w v2 H) :
    Calls Try.prog 7 #[v1, v2] w fun e w' => e = .returned (.bool true) ∧ Below w.heap.size w w' := by
  obtain ⟨a1, c1, rfl, r1, r2, r4⟩ := u1.form
  obtain ⟨a2, c2, rfl, p1, p2, p4⟩ := u2.form
  have hm2 : H.length ≤ maxLen := by omega
  unfold maxLen at hm2
  have U1 := hidq u1
  have U2 := hidq u2
  have HP4 := hidq p4
  have HR4 := hidq r4
  clear u1 u2 p4 r4
  obtain ⟨i0, hi, hz0, hz1, hz2⟩ := info_partsq Try.infoBoolz
  by_cases hfe : M.Few1 A H
  · have HFE := hidq hfe
    obtain ⟨K, e1, hA1⟩ := allA A H
    have HA1 := hidq hA1
    have e1c : e1 = 0 ∨ e1 = 1 := by rcases hA1 with h | h; exact .inl h.1; exact .inr h.1
    have hkl := all_len hA1
    rcases e1c with rfl | rfl
    · obtain ⟨am, _, al, ab, aok, aH⟩ := all_mem hA1
      have HAM := hidq am
      have HAB := hidq ab
      have HHB := hidq aH.2
      have HA := hidq aok
      have hn40 := aok.1
      clear am al ab aok aH hfe hA1
      generalize hn : A.length = n at *
      have HN := hidq hn
      clear hn
      generalize hkn : K.length = kn at *
      have HKN := hidq hkn
      clear hkn
      generalize hhn : H.length = hn at *
      have HHN := hidq hhn
      clear hhn
      go_enter Try.func7, Try.ntmps7
      go_wp2_with (first | (go_at_call 10; refine (klive_any _).mono ?_; rintro rr w1 ⟨rfl, hb1⟩; have B1 := hidq hb1; have sz1 := hb1.size; clear hb1) | (go_at_call 11; refine (few1_yes HFE.out _ ((U1.out.below B1.out).alloc _) (iss_one w1 _ (by simp) _ _ _ H (U2.out.below B1.out))).mono ?_; rintro rr w2 ⟨rfl, hw2⟩; subst w2; have B2 := hidq (fun o => below_one (o := o) B1.out)) | (go_at_call 12; refine (kall_any HA1.out _ (U1.out.below (B2.out _)) (U2.out.below (B2.out _))).mono ?_; rintro rr w3 ⟨v3, rfl, ho3, hb3⟩; have hI3 : Is w3 v3 K := Sl.of_own (E := elInt) ho3 (all_fit HA1.out); obtain ⟨ak, ck, rfl, zk1, _, zk⟩ := hI3.form; rw [HKN.out] at hI3 zk1 ⊢; have I6 := hidq hI3; have ZK := hidq zk; have B6 := hidq (below_trans (B2.out _) hb3); clear hI3 zk ho3 hb3) | (at_make; refine wpList_make_full _ rfl _ _ 37 rfl w.heap.size 4 i0 (.bool false) 1 Try.underlying37 hi hz0 hz1 _ _ _ _ n rfl rfl (by first | rfl | omega) (by first | rfl | omega) ?b2 ?b3 ?b4 ?_))
      case b2 => (try rw [hz2]); omega
      case b3 => unfold maxLen; omega
      case b4 => exact B6.out.size
      intro w7 hown hgrow
      rw [elBool_zeros, M.row_none] at hown
      have C7 : Below w3.heap.size w3 w7 := (Below.refl _ _).grown hgrow (Nat.le_refl _) (fun k hk => by cases hk)
      have sz6 := B6.out.size
      generalize hg1 : w3.heap.size = g1 at *
      have HS := hidq (⟨hown, C7⟩ : w7.ownsRow w.heap.size 4 1 (.slice (some ⟨g1, 0, none⟩) n n) n (elBool.cells (M.rowB (fun j => decide ((j : Int) ∈ ([] : List Int))) n)) ∧ Below g1 w3 w7)
      have HI6 := hidq (fun X (hb : Below g1 w3 X) => I6.out.below (by rw [hg1]; exact hb))
      have HB6 := hidq (fun X (hb : Below g1 w3 X) => below_trans B6.out (by rw [hg1]; exact hb))
      clear hown hgrow C7 hg1 I6 B6
      go_wp2
      go_loopw [42] (fun x wr => ∃ k : Nat, k ≤ kn ∧ x = .int .i64 k ∧ wr.ownsRow w.heap.size 4 1 (.slice (some ⟨g1, 0, none⟩) n n) n (elBool.cells (M.rowB (fun j => decide ((j : Int) ∈ K.take k)) n)) ∧ Below g1 w3 wr) (fun x _ => kn - (intOf x).toNat)
      case atStart => exact ⟨0, by omega, rfl, HS.out.1, HS.out.2⟩
      case round =>
        obtain ⟨k, hk, rfl, hown, hbl⟩ := hrel
        have HOW := hidq hown
        clear HS
        by_cases hlt : k < kn
        · obtain ⟨bk, ok, rfl⟩ := ZK.out (by omega)
          obtain ⟨x, hx⟩ : ∃ x, K[k]? = some x := ⟨_, List.getElem?_eq_getElem (by rw [HKN.out]; exact hlt)⟩
          have cx := Is.cellq (HI6.out _ hbl) hx
          have hxb := HAB.out x (List.mem_of_getElem? hx)
          obtain ⟨p, rfl⟩ : ∃ p : Nat, x = p := ⟨x.toNat, by omega⟩
          have hpn : p < n := by have := HN.out; omega
          have hpi : (p : Int) < n := by omega
          have c0 := ownB_cell hown hpn
          have f0 := hown.frozenAt p
          have HST := hidq (mark_store (p := p) hown)
          rw [← take_next hx] at HST
          have HBS := hidq (show Below g1 w3 (wr.setCell ⟨g1, p, none⟩ (.bool true)) from hbl.setCell (Nat.le_refl _) _)
          clear hx hxb hown hbl
          go_wp2
          go_roundw
          case rel => exact ⟨k + 1, by omega, by go_num, HST.out, HBS.out⟩
          case measure => simp [intOf]; omega
        · have e : K.take k = K := List.take_of_length_le (by rw [HKN.out]; omega)
          rw [e] at HOW
          have HBW0 := hidq (HB6.out _ hbl)
          clear hown hbl e
          go_wp2_with (first | (at_make; refine wpList_make_full _ rfl _ _ 37 rfl w.heap.size 4 i0 (.bool false) 1 Try.underlying37 hi hz0 hz1 _ _ _ _ n rfl rfl (by first | rfl | omega) (by first | rfl | omega) ?b2 ?b3 ?b4 ?_))
          case b2 => (try rw [hz2]); omega
          case b3 => unfold maxLen; omega
          case b4 => exact HBW0.out.size
          intro w10 hown hgrow
          rw [elBool_zeros, M.row_none] at hown
          have C10 : Below wr.heap.size wr w10 := (Below.refl _ _).grown hgrow (Nat.le_refl _) (fun k hk => by cases hk)
          have hg12 := (HOW.out.lt g1 rfl).2
          have HS1 := hidq (own_keptq HOW.out C10)
          have HS2 := hidq (show w10.ownsRow w.heap.size 4 1 (.slice (some ⟨wr.heap.size, 0, none⟩) n n) n (elBool.cells (M.rowB (fun j => decide ((j : Int) ∈ (H.take 0).flatMap (M.withinL A))) n)) from hown)
          have HS3 := hidq (below_trans HBW0.out C10)
          generalize hg2 : wr.heap.size = g2 at *
          clear hown hgrow C10 hg2 HOW HBW0
          go_wp2
          go_loopw [55] (fun x wr => (∃ k : Nat, k ≤ hn ∧ x = .int .i64 k ∧ wr.ownsRow w.heap.size 4 1 (.slice (some ⟨g1, 0, none⟩) n n) n (elBool.cells (M.rowB (fun j => decide ((j : Int) ∈ K)) n)) ∧ wr.ownsRow w.heap.size 4 1 (.slice (some ⟨g2, 0, none⟩) n n) n (elBool.cells (M.rowB (fun j => decide ((j : Int) ∈ (H.take k).flatMap (M.withinL A))) n)) ∧ Below w.heap.size w wr)) (fun x _ => hn - (intOf x).toNat)
          case atStart => exact ⟨0, by omega, rfl, HS1.out, HS2.out, HS3.out⟩
          case round =>
            obtain ⟨m, hm, rfl, hown1, hown2, hbw⟩ := hrel
            have HO1 := hidq hown1
            have HO2 := hidq hown2
            have HBW := hidq hbw
            clear hown1 hown2 hbw HS1 HS2 HS3
            by_cases hlm : m < hn
            · obtain ⟨b2, o2, rfl⟩ := HP4.out (by omega)
              obtain ⟨x, hx⟩ : ∃ x, H[m]? = some x := ⟨_, List.getElem?_eq_getElem (by rw [HHN.out]; exact hlm)⟩
              have cx := Is.cellq (U2.out.below HBW.out) hx
              have hxp := HHB.out x (List.mem_of_getElem? hx)
              obtain ⟨Wh, hWh⟩ : ∃ Wh, M.withinL A x = Wh := ⟨_, rfl⟩
              have HWL := hidq hWh
              have HDE := hidq (show M.deepE A x = 0 by unfold M.deepE; rw [if_pos (M.thr_of HA.out hxp)])
              have HWB := hidq (M.within_lt hxp HN.out)
              rw [hWh] at HWB
              have HFN := hidq (flat_next (A := A) hx)
              rw [hWh] at HFN
              obtain ⟨wn, hwn⟩ : ∃ wn, Wh.length = wn := ⟨_, rfl⟩
              have HWN := hidq hwn
              have hwl : wn ≤ 9223372036854775807 := by
                have h1 := M.outL_len (M.rkB A x.toNat 0) (x.toNat + 1)
                rw [← hwn, ← hWh]
                unfold M.withinL
                split
                · have := hxp.1; have := hxp.2; have := HN.out; omega
                · simp
              clear hx hxp hWh hwn
              generalize (H.take m).flatMap (M.withinL A) = Q at *
              go_wp2_with (first | (go_at_call 22; refine (within_eq HWL.out HDE.out _ (U1.out.below HBW.out)).mono ?_; rintro rr w12 ⟨v12, rfl, ho12, hb12⟩; have hI12 : Is w12 v12 Wh := Is.of_ownq ho12 hn40 HWB.out; obtain ⟨aw, cw, rfl, zw1, _, zw⟩ := hI12.form; rw [HWN.out] at hI12 zw1 ⊢; have ho12' := ho12; rw [HWN.out] at ho12'; have HIW := hidq (fun X (hX : Outs (fun i => i = g2) w12 X) => (show Is X (.slice aw wn cw) Wh from Is.of_ownq (by rw [HWN.out]; exact own_outs ho12' hX (fun k hk e => by have h1 := (ho12'.lt k hk).1; have h2 := (HO2.out.lt g2 rfl).2; omega)) hn40 HWB.out)); have ZW := hidq zw; clear ho12'; have O12 := hidq (own_keptq HO1.out hb12); have O13 := hidq (own_keptq HO2.out hb12); have B12 := hidq (below_trans HBW.out hb12); clear hI12 zw ho12 hb12))
              go_loopw [69] (fun x wr => ∃ k : Nat, k ≤ wn ∧ x = .int .i64 k ∧ wr.ownsRow w.heap.size 4 1 (.slice (some ⟨g1, 0, none⟩) n n) n (elBool.cells (M.rowB (fun j => decide ((j : Int) ∈ K)) n)) ∧ wr.ownsRow w.heap.size 4 1 (.slice (some ⟨g2, 0, none⟩) n n) n (elBool.cells (M.rowB (fun j => decide ((j : Int) ∈ Q ++ Wh.take k)) n)) ∧ Below w.heap.size w wr ∧ Outs (fun i => i = g2) w12 wr) (fun x _ => wn - (intOf x).toNat)
              case atStart => exact ⟨0, by omega, rfl, O12.out, by rw [List.take_zero, List.append_nil]; exact O13.out, B12.out, Outs.refl _ _⟩
              case round =>
                obtain ⟨k, hk, rfl, hr1, hr2, hr3, hr4⟩ := hrel
                have HX1 := hidq hr1
                have HX2 := hidq hr2
                have HX3 := hidq hr3
                have HX4 := hidq hr4
                clear hr1 hr2 hr3 hr4 O12 O13 B12
                by_cases hlk : k < wn
                · obtain ⟨bw, ow, rfl⟩ := ZW.out (by omega)
                  obtain ⟨y, hy⟩ : ∃ y, Wh[k]? = some y := ⟨_, List.getElem?_eq_getElem (by rw [HWN.out]; exact hlk)⟩
                  have cy := Is.cellq (HIW.out _ HX4.out) hy
                  have hyb := HWB.out y (List.mem_of_getElem? hy)
                  obtain ⟨p, rfl⟩ : ∃ p : Nat, y = p := ⟨y.toNat, by omega⟩
                  have hpn : p < n := by omega
                  have hpi : (p : Int) < n := by omega
                  have c0 := ownB_cell HX2.out hpn
                  have f0 := HX2.out.frozenAt p
                  have hst := mark_store (p := p) HX2.out
                  rw [List.append_assoc, ← take_next hy] at hst
                  have HST := hidq hst
                  have hO : Outs (fun i => i = g2) wr (wr.setCell ⟨g2, p, none⟩ (.bool true)) := Outs.set wr _ rfl
                  have HN1 := hidq (own_outs HX1.out hO fun q hq e => by have hq' : g1 = q := Option.some.inj hq; omega)
                  have HN3 := hidq (show Below w.heap.size w (wr.setCell ⟨g2, p, none⟩ (.bool true)) from HX3.out.setCell (HX2.out.lt g2 rfl).1 _)
                  have HN4 := hidq (HX4.out.trans hO)
                  clear hy hyb hst hO
                  go_wp2
                  go_roundw
                  case rel => exact ⟨k + 1, by omega, by go_num, HN1.out, HST.out, HN3.out, HN4.out⟩
                  case measure => simp [intOf]; omega
                · have e : Wh.take k = Wh := List.take_of_length_le (by rw [HWN.out]; omega)
                  rw [e, ← HFN.out] at HX2
                  clear e
                  go_wp2
                  go_roundw
                  case rel => exact ⟨m + 1, by omega, by go_num, HX1.out, HX2.out, HX3.out⟩
                  case measure => simp [intOf]; omega
            · have e : H.take m = H := List.take_of_length_le (by rw [HHN.out]; omega)
              rw [e] at HO2
              clear e
              have HAT := hidq (fun (i : Nat) (hk : M.Kn A H i) (ha : (M.at_ A i).1 = 1) => M.atom_in HA.out HHB.out hk ha)
              generalize H.flatMap (M.withinL A) = Q at *
              go_wp2
              go_loopw [80] (fun x wr => ∃ k : Nat, k ≤ n ∧ x = .int .i64 k ∧ wr.ownsRow w.heap.size 4 1 (.slice (some ⟨g1, 0, none⟩) n n) n (elBool.cells (M.rowB (fun j => decide ((j : Int) ∈ K)) n)) ∧ wr.ownsRow w.heap.size 4 1 (.slice (some ⟨g2, 0, none⟩) n n) n (elBool.cells (M.rowB (fun j => decide ((j : Int) ∈ Q)) n)) ∧ Below w.heap.size w wr) (fun x _ => n - (intOf x).toNat)
              case atStart => exact ⟨0, by omega, rfl, HO1.out, HO2.out, HBW.out⟩
              case round =>
                obtain ⟨i, hin, rfl, hr1, hr2, hr3⟩ := hrel
                clear HO1 HO2 HBW
                have HO1 := hidq hr1
                have HO2 := hidq hr2
                have HBW := hidq hr3
                clear hr1 hr2 hr3
                by_cases hli : i < n
                · obtain ⟨bt, ot, rfl⟩ := HR4.out (by omega)
                  have hii : (i : Int) < n := by omega
                  obtain ⟨x1, x2, x3⟩ := Ts.cell (U1.out.below HBW.out) (k := i) (by rw [HN.out]; exact hli)
                  have hmay := (HA.out.2 i (by rw [HN.out]; exact hli)).1
                  have HPI := hidq (fun (hk : (M.at_ A i).1 = 2 ∨ (M.at_ A i).1 = 3 ∨ (M.at_ A i).1 = 4) (ha : M.Kn A H (M.at_ A i).2.1) => M.part_in (by rw [HN.out]; exact hli) hk ha)
                  have HAI := hidq (HAT.out i)
                  have d1 := ownB_cell HO1.out hli
                  have d2 := ownB_cell HO2.out hli
                  have e1 := ownB_cell (HO1.out.alloc (.cells #[.int .i64 (M.at_ A i).1, .int .i64 (M.at_ A i).2.1, .int .i64 (M.at_ A i).2.2] 41)) hli
                  have e2 := ownB_cell (HO2.out.alloc (.cells #[.int .i64 (M.at_ A i).1, .int .i64 (M.at_ A i).2.1, .int .i64 (M.at_ A i).2.2] 41)) hli
                  have lg1 := (HO1.out.lt g1 rfl).2
                  have lg2 := (HO2.out.lt g2 rfl).2
                  have HPAR := hidq (show M.parts (M.at_ A i) = M.parts (M.at_ A i) from rfl)
                  obtain ⟨⟨tk, ta, tb⟩, ht⟩ : ∃ t, M.at_ A i = t := ⟨_, rfl⟩
                  rw [ht] at x1 x2 x3 hmay HPI HAI e1 e2
                  clear ht HPAR
                  dsimp only at x1 x2 x3 e1 e2
                  obtain ⟨kin, hkin⟩ : ∃ kin, decide ((i : Int) ∈ K) = kin := ⟨_, rfl⟩
                  obtain ⟨qin, hqin⟩ : ∃ qin, decide ((i : Int) ∈ Q) = qin := ⟨_, rfl⟩
                  rw [hkin] at d1 e1
                  rw [hqin] at d2 e2
                  have PC := hidq (fun X => rparts_any (tk, ta, tb) X)
                  rcases M.may_kind hmay with ⟨k1, k2, k3, k4⟩ | ⟨k1, k2, k3, k4⟩ | ⟨k1, k2, k3, k4, k5⟩
                  · dsimp only at k1 k2 k3 k4
                    have HPA := hidq (show M.parts (tk, ta, tb) = [] from M.parts_0 (by dsimp only; omega) (by dsimp only; omega) (by dsimp only; omega) (by dsimp only; omega))
                    have hq : kin = true → qin = true := fun h => by
                      rw [← hqin]
                      exact decide_eq_true (HAI.out ((HAM.out i).1 (of_decide_eq_true (hkin.trans h))) k1)
                    clear hmay HPI HAI hkin hqin
                    subst k1
                    subst k4
                    cases kin with
                    | true =>
                      obtain rfl : qin = true := hq rfl
                      clear hq
                      go_wp2_with (first | (go_at_call 23; refine (PC.out _).mono ?_; rintro rr w14 ⟨v14, rfl, ho14, hb14⟩; have OP1 := hidq (own_keptq (HO1.out.alloc _) hb14); have OP2 := hidq (own_keptq (HO2.out.alloc _) hb14); have BP := hidq (below_trans (below_one HBW.out) hb14); rw [HPA.out] at ho14; obtain ⟨ap, cp, rfl, zp⟩ := own_formq ho14; clear ho14 hb14 zp))
                      go_roundw
                      case rel => exact ⟨i + 1, by omega, by go_num, OP1.out, OP2.out, BP.out⟩
                      case measure => simp [intOf]; omega
                    | false =>
                      clear hq
                      go_wp2_with (first | (go_at_call 23; refine (PC.out _).mono ?_; rintro rr w14 ⟨v14, rfl, ho14, hb14⟩; have OP1 := hidq (own_keptq (HO1.out.alloc _) hb14); have OP2 := hidq (own_keptq (HO2.out.alloc _) hb14); have BP := hidq (below_trans (below_one HBW.out) hb14); rw [HPA.out] at ho14; obtain ⟨ap, cp, rfl, zp⟩ := own_formq ho14; clear ho14 hb14 zp))
                      go_roundw
                      case rel => exact ⟨i + 1, by omega, by go_num, OP1.out, OP2.out, BP.out⟩
                      case measure => simp [intOf]; omega
                  · dsimp only at k1 k2 k3 k4
                    have HPA := hidq (show M.parts (tk, ta, tb) = [ta] from M.parts_1 k1)
                    obtain ⟨a, rfl⟩ : ∃ a : Nat, ta = a := ⟨ta.toNat, by omega⟩
                    have han : a < n := by omega
                    have hai : (a : Int) < n := by omega
                    obtain ⟨ain, hain⟩ : ∃ ain, decide ((a : Int) ∈ K) = ain := ⟨_, rfl⟩
                    have hq : ain = true → kin = true := fun h => by
                      rw [← hkin]
                      exact decide_eq_true ((HAM.out i).2 (HPI.out k1 ((HAM.out a).1 (of_decide_eq_true (hain.trans h)))))
                    have t1 : (tk == 1) = false := beq_eq_false_iff_ne.2 (by omega)
                    have t1' : ¬ tk = 1 := by omega
                    have HAIN := hidq hain
                    have HKIN := hidq hkin
                    clear hmay HPI HAI hkin hqin hain k1
                    subst k4
                    cases ain with
                    | true =>
                      obtain rfl : kin = true := hq rfl
                      clear hq
                      go_wp2_with (first | (go_at_call 23; refine (PC.out _).mono ?_; rintro rr w14 ⟨v14, rfl, ho14, hb14⟩; have OP1 := hidq (own_keptq (HO1.out.alloc _) hb14); have OP2 := hidq (own_keptq (HO2.out.alloc _) hb14); have BP := hidq (below_trans (below_one HBW.out) hb14); rw [HPA.out] at ho14; obtain ⟨ap, cp, rfl, zp⟩ := own_formq ho14; obtain ⟨gp, rfl, _⟩ := zp (by simp); have y1 := own_cellq ho14 (k := 0) (by simp) rfl; have y2 := ownB_cell OP1.out han; rw [HAIN.out] at y2; have y3 := ownB_cell OP1.out hli; rw [HKIN.out] at y3; clear ho14 hb14 zp))
                      go_roundw
                      case rel => exact ⟨i + 1, by omega, by go_num, OP1.out, OP2.out, BP.out⟩
                      case measure => simp [intOf]; omega
                    | false =>
                      clear hq
                      go_wp2_with (first | (go_at_call 23; refine (PC.out _).mono ?_; rintro rr w14 ⟨v14, rfl, ho14, hb14⟩; have OP1 := hidq (own_keptq (HO1.out.alloc _) hb14); have OP2 := hidq (own_keptq (HO2.out.alloc _) hb14); have BP := hidq (below_trans (below_one HBW.out) hb14); rw [HPA.out] at ho14; obtain ⟨ap, cp, rfl, zp⟩ := own_formq ho14; obtain ⟨gp, rfl, _⟩ := zp (by simp); have y1 := own_cellq ho14 (k := 0) (by simp) rfl; have y2 := ownB_cell OP1.out han; rw [HAIN.out] at y2; have y3 := ownB_cell OP1.out hli; rw [HKIN.out] at y3; clear ho14 hb14 zp))
                      go_roundw
                      case rel => exact ⟨i + 1, by omega, by go_num, OP1.out, OP2.out, BP.out⟩
                      case measure => simp [intOf]; omega
                  · dsimp only at k1 k2 k3 k4 k5
                    have HPA := hidq (show M.parts (tk, ta, tb) = [ta, tb] from M.parts_2 k1)
                    clear hmay HPI HAI hkin hqin
                    subst k1
                    go_wp2_with (first | (go_at_call 23; refine (PC.out _).mono ?_; rintro rr w14 ⟨v14, rfl, ho14, hb14⟩; have OP1 := hidq (own_keptq (HO1.out.alloc _) hb14); have OP2 := hidq (own_keptq (HO2.out.alloc _) hb14); have BP := hidq (below_trans (below_one HBW.out) hb14); rw [HPA.out] at ho14; obtain ⟨ap, cp, rfl, zp⟩ := own_formq ho14; clear ho14 hb14 zp))
                    go_roundw
                    case rel => exact ⟨i + 1, by omega, by go_num, OP1.out, OP2.out, BP.out⟩
                    case measure => simp [intOf]; omega
                · go_wp2
                  go_ret
                  exact ⟨rfl, HBW.out⟩
    · clear hfe hA1
      go_enter Try.func7, Try.ntmps7
      go_wp2_with (first | (go_at_call 10; refine (klive_any _).mono ?_; rintro rr w1 ⟨rfl, hb1⟩; have B1 := hidq hb1; have sz1 := hb1.size; clear hb1) | (go_at_call 11; refine (few1_yes HFE.out _ ((U1.out.below B1.out).alloc _) (iss_one w1 _ (by simp) _ _ _ H (U2.out.below B1.out))).mono ?_; rintro rr w2 ⟨rfl, hw2⟩; subst w2; have B2 := hidq (fun o => below_one (o := o) B1.out)) | (go_at_call 12; refine (kall_any HA1.out _ (U1.out.below (B2.out _)) (U2.out.below (B2.out _))).mono ?_; rintro rr w3 ⟨v3, rfl, ho3, hb3⟩; obtain ⟨a30, c30, rfl, _⟩ := own_formq ho3; have B3 := hidq (below_trans (B2.out _) hb3); clear ho3 hb3))
      go_ret
      exact ⟨rfl, B3.out⟩
  · have HFE := hidq hfe
    clear hfe
    go_enter Try.func7, Try.ntmps7
    go_wp2_with (first | (go_at_call 10; refine (klive_any _).mono ?_; rintro rr w1 ⟨rfl, hb1⟩; have B1 := hidq hb1; have sz1 := hb1.size; clear hb1) | (go_at_call 11; refine (few1_no HFE.out _ ((U1.out.below B1.out).alloc _) (iss_one w1 _ (by simp) _ _ _ H (U2.out.below B1.out))).mono ?_; rintro rr w2 ⟨rfl, hw2⟩; subst w2))
    go_ret
    exact ⟨rfl, below_one B1.out⟩
end Go.Proofs.Ythkkclhjpgkhaaa
