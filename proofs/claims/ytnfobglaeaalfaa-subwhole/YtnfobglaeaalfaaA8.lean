/-
  What the document's own answer Touch of layer 8 comes to. Conditions: the numbers fit their kinds.
-/
import Derived.Test.YtnfobglaeaalfaaA7
import Derived.Test.YtnfobglaeaalfaaA5
namespace Go.Proofs.Ytnfobglaeaalfaa
open Go.RowKit
theorem rleaves8_any (h I J : Int) (w : World) (h0 : 0 ≤ I) (h1 : I ≤ 18446744073709551615) (h2 : 0 ≤ J) (h3 : J ≤ 18446744073709551615) :
    Calls Try.prog 12 #[.int .i64 h, .agg #[.int .u64 I, .int .u64 J]] w fun e w' => ∃ ao n c, e = .returned (.tuple #[.slice ao n c, .int .i64 (M.subE h I J)]) ∧ (M.subB h I J = true → Ps w' (.slice ao n c) (M.lvs h I J)) ∧ Below w.heap.size w w' := by
  cases hs : M.subB h I J
  · rw [M.subE_no hs]
    refine (rleaves8_no h I J w hs h0 h1 h2 h3).mono ?_
    rintro e w' ⟨rfl, hb⟩
    exact ⟨_, _, _, rfl, fun hx => by simp at hx, hb⟩
  · rw [M.subE_yes hs]
    refine (rleaves8_yes h I J w hs h0 h1 h2 h3).mono ?_
    rintro e w' ⟨v, rfl, hp, hb⟩
    obtain ⟨ao, c, rfl, _⟩ := hp.form
    exact ⟨_, _, _, rfl, fun _ => hp, hb⟩
set_option maxRecDepth 100000 in
set_option maxHeartbeats 1000000 in
theorem rtouch_no (h I J K L : Int) (w : World) (h0 : 0 ≤ I ∧ I ≤ 18446744073709551615) (h1 : 0 ≤ J ∧ J ≤ 18446744073709551615) (h2 : 0 ≤ K ∧ K ≤ 18446744073709551615) (h3 : 0 ≤ L ∧ L ≤ 18446744073709551615) (hn : ¬ (M.subB h I J = true ∧ M.subB h K L = true)) :
    Calls Try.prog 16 #[.int .i64 h, .agg #[.int .u64 I, .int .u64 J], .agg #[.int .u64 K, .int .u64 L]] w fun e w' => e = .returned (.tuple #[.bool (M.toV h I J K L), .int .i64 (M.toE h I J K L)]) ∧ Below w.heap.size w w' := by
  have HA := hidq (fun o => (Below.refl _ w).alloc (Nat.le_refl w.heap.size) o)
  have T1 := hidq trivial
  have T2 := hidq trivial
  obtain ⟨e1, e2⟩ := M.to_no hn
  rw [e1, e2]
  clear e1 e2
  cases hs : M.subB h I J
  · have E := M.subE_no hs
    clear hs hn
    go_enter Try.func16, Try.ntmps16
    go_wp2_with (first | (go_at_call 12; clear T1; refine (rleaves8_any h I J _ (by omega) (by omega) (by omega) (by omega)).mono ?_; rintro e w1 ⟨ao1, n1, c1, rfl, hp1, hb1⟩; have X1 := ((Bi.new w 24 I J).alloc (.cells #[.int .u64 K, .int .u64 L] 24)).below hb1; have Y1 := (Bi.new1 w (.cells #[.int .u64 I, .int .u64 J] 24) 24 K L).below hb1; obtain ⟨Y1a, Y1b⟩ := Y1.facts; have hB1 := below_trans (below_one (HA.out _)) hb1; have HP1 := hidq hp1; clear hp1) | (go_at_call 12; clear T2; refine (rleaves8_any h K L _ (by omega) (by omega) (by omega) (by omega)).mono ?_; rintro e w2 ⟨ao2, n2, c2, rfl, hp2, hb2⟩; have hB2 := below_trans hB1 hb2; have HP2 := hidq hp2; clear hp2))
    go_ret2
    exact ⟨rfl, hB2⟩
  · have E := M.subE_yes hs
    have E2 := M.subE_no (h := h) (I := K) (J := L) (by cases ht : M.subB h K L; rfl; exact absurd ⟨hs, ht⟩ hn)
    clear hs hn
    go_enter Try.func16, Try.ntmps16
    go_wp2_with (first | (go_at_call 12; clear T1; refine (rleaves8_any h I J _ (by omega) (by omega) (by omega) (by omega)).mono ?_; rintro e w1 ⟨ao1, n1, c1, rfl, hp1, hb1⟩; have X1 := ((Bi.new w 24 I J).alloc (.cells #[.int .u64 K, .int .u64 L] 24)).below hb1; have Y1 := (Bi.new1 w (.cells #[.int .u64 I, .int .u64 J] 24) 24 K L).below hb1; obtain ⟨Y1a, Y1b⟩ := Y1.facts; have hB1 := below_trans (below_one (HA.out _)) hb1; have HP1 := hidq hp1; clear hp1) | (go_at_call 12; clear T2; refine (rleaves8_any h K L _ (by omega) (by omega) (by omega) (by omega)).mono ?_; rintro e w2 ⟨ao2, n2, c2, rfl, hp2, hb2⟩; have hB2 := below_trans hB1 hb2; have HP2 := hidq hp2; clear hp2))
    go_ret2
    exact ⟨rfl, hB2⟩
/-- two spans have a leaf together -/
def M.two (s t : Int × Int) : Bool := decide (s.1 ≤ t.2) && decide (t.1 ≤ s.2)
set_option maxRecDepth 100000 in
set_option maxHeartbeats 2000000 in
theorem rtouch_yes (h I J K L : Int) (w : World) (h0 : 0 ≤ I ∧ I ≤ 18446744073709551615) (h1 : 0 ≤ J ∧ J ≤ 18446744073709551615) (h2 : 0 ≤ K ∧ K ≤ 18446744073709551615) (h3 : 0 ≤ L ∧ L ≤ 18446744073709551615) (hs : M.subB h I J = true) (ht : M.subB h K L = true) :
    Calls Try.prog 16 #[.int .i64 h, .agg #[.int .u64 I, .int .u64 J], .agg #[.int .u64 K, .int .u64 L]] w fun e w' => e = .returned (.tuple #[.bool (M.toV h I J K L), .int .i64 (M.toE h I J K L)]) ∧ Below w.heap.size w w' := by
  have HA := hidq (fun o => (Below.refl _ w).alloc (Nat.le_refl w.heap.size) o)
  have T1 := hidq trivial
  have T2 := hidq trivial
  obtain ⟨e1, e2⟩ := M.to_yes hs ht
  rw [e1, e2]
  clear e1 e2
  have E := M.subE_yes hs
  have E2 := M.subE_yes ht
  obtain ⟨r, hr⟩ : ∃ r, M.metB (M.lvs h I J) (M.lvs h K L) = r := ⟨_, rfl⟩
  have hd := M.metB_doc (fun s h' => ((M.lvs_facts hs).1 s h').2.1) (fun s h' => ((M.lvs_facts ht).1 s h').2.1)
  rw [hr] at hd
  have HR : Hid ((M.lvs h I J).any (fun s => (M.lvs h K L).any (M.two s)) = r) := hd
  rw [hr]
  have la := M.lvs_facts hs
  have lb := M.lvs_facts ht
  have na : (M.lvs h I J).length ≤ 2 := la.2.2.1
  have nb : (M.lvs h K L).length ≤ 2 := lb.2.2.1
  clear la lb hr hd
  have HS := hidq hs
  have HT := hidq ht
  clear hs ht
  generalize hS : M.lvs h I J = S at *
  generalize hT : M.lvs h K L = T at *
  go_enter Try.func16, Try.ntmps16
  go_wp2_with (first | (go_at_call 12; clear T1; refine (rleaves8_any h I J _ (by omega) (by omega) (by omega) (by omega)).mono ?_; rintro e w1 ⟨ao1, n1, c1, rfl, hp1, hb1⟩; have X1 := ((Bi.new w 24 I J).alloc (.cells #[.int .u64 K, .int .u64 L] 24)).below hb1; have Y1 := (Bi.new1 w (.cells #[.int .u64 I, .int .u64 J] 24) 24 K L).below hb1; obtain ⟨Y1a, Y1b⟩ := Y1.facts; have hB1 := below_trans (below_one (HA.out _)) hb1; have HP1 := hidq hp1; clear hp1) | (go_at_call 12; clear T2; refine (rleaves8_any h K L _ (by omega) (by omega) (by omega) (by omega)).mono ?_; rintro e w2 ⟨ao2, n2, c2, rfl, hp2, hb2⟩; have hB2 := below_trans hB1 hb2; have HP2 := hidq hp2; clear hp2))
  have U := (HP1.out HS.out).below hb2
  have V := HP2.out HT.out
  rw [hS] at U
  rw [hT] at V
  obtain ⟨_, _, e3, _, _, f3⟩ := U.form
  obtain ⟨_, _, e4, _, _, f4⟩ := V.form
  cases e3
  cases e4
  have UU := hidq U
  have VV := hidq V
  have F3 := hidq f3
  have F4 := hidq f4
  have HB2 := hidq hB2
  clear U V f3 f4 hB2 HP1 HP2 hb2 hb1 hB1 X1 Y1 Y1a Y1b hS hT
  generalize hn : S.length = n at *
  generalize hm : T.length = m at *
  have HN := hidq hn
  have HM := hidq hm
  clear hn hm
  go_loopw [36] (fun x wr => ∃ k : Nat, k ≤ n ∧ x = .int .i64 k ∧ (S.take k).any (fun s => T.any (M.two s)) = false ∧ Below w2.heap.size w2 wr) (fun x _ => n - (intOf x).toNat)
  case atStart => exact ⟨0, by omega, rfl, by simp, Below.refl _ _⟩
  case round =>
    obtain ⟨k, hk, rfl, hno, hb⟩ := hrel
    have HNO := hidq hno
    have HB := hidq hb
    by_cases hlt : k < n
    · obtain ⟨b1, o1, rfl⟩ := F3.out (by omega)
      obtain ⟨x, hx⟩ : ∃ x, S[k]? = some x := ⟨_, List.getElem?_eq_getElem (by rw [HN.out]; exact hlt)⟩
      obtain ⟨c5, c6⟩ := Ps.at (UU.out.below hb) hx
      have HX := hidq hx
      clear hx hno hb
      obtain ⟨y, z⟩ := x
      have BY := hidq (Bi.new wr 48 y z)
      have HB' := hidq (below_one (o := .cells #[.int .u64 y, .int .u64 z] 48) HB.out)
      go_wp2
      go_loopw [42] (fun x wq => ∃ l : Nat, l ≤ m ∧ x = .int .i64 l ∧ (T.take l).any (M.two (y, z)) = false ∧ Bi wq wr.heap.size 48 y z ∧ Below w2.heap.size w2 wq) (fun x _ => m - (intOf x).toNat)
      case atStart => exact ⟨0, by omega, rfl, by simp, BY.out, HB'.out⟩
      case round =>
        obtain ⟨l, hl, rfl, hno2, hby, hb3⟩ := hrel
        have HNO2 := hidq hno2
        have HB3 := hidq hb3
        by_cases hlq : l < m
        · obtain ⟨b2, o2, rfl⟩ := F4.out (by omega)
          obtain ⟨t, hq⟩ : ∃ t, T[l]? = some t := ⟨_, List.getElem?_eq_getElem (by rw [HM.out]; exact hlq)⟩
          obtain ⟨c7, c8⟩ := Ps.at (VV.out.below hb3) hq
          have HQ := hidq hq
          obtain ⟨u, v⟩ := t
          obtain ⟨d1, d2⟩ := (hby.alloc (.cells #[.int .u64 u, .int .u64 v] 48)).facts
          have HBY := hidq (hby.alloc (.cells #[.int .u64 u, .int .u64 v] 48))
          have HB4 := hidq (below_one (o := .cells #[.int .u64 u, .int .u64 v] 48) hb3)
          clear hq hno2 hb3 hby BY HB'
          by_cases g1 : y ≤ v
          · by_cases g2 : u ≤ z
            · have htw : M.two (y, z) (u, v) = true := by unfold M.two; rw [decide_eq_true g1, decide_eq_true g2]; rfl
              obtain rfl : r = true := by
                rw [← HR.out, List.any_eq_true]
                exact ⟨_, List.mem_of_getElem? HX.out, List.any_eq_true.2 ⟨_, List.mem_of_getElem? HQ.out, htw⟩⟩
              clear htw
              go_wp2
              go_ret2
              exact ⟨rfl, below_trans HB2.out HB4.out⟩
            · have htw : M.two (y, z) (u, v) = false := by unfold M.two; rw [decide_eq_true g1, decide_eq_false g2]; rfl
              have HN2 := hidq (any_take_sp HQ.out HNO2.out htw)
              clear htw
              go_wp2
              go_roundw
              case rel => exact ⟨l + 1, by omega, by go_num, HN2.out, HBY.out, HB4.out⟩
              case measure => simp [intOf]; omega
          · have htw : M.two (y, z) (u, v) = false := by unfold M.two; rw [decide_eq_false g1]; rfl
            have HN2 := hidq (any_take_sp HQ.out HNO2.out htw)
            clear htw
            go_wp2
            go_roundw
            case rel => exact ⟨l + 1, by omega, by go_num, HN2.out, HBY.out, HB4.out⟩
            case measure => simp [intOf]; omega
        · have hall : T.any (M.two (y, z)) = false := by
            rw [← HNO2.out, List.take_of_length_le (by rw [HM.out]; omega)]
          have HN2 := hidq (any_take_sp (p := fun s => T.any (M.two s)) HX.out HNO.out hall)
          clear hall hno2 hby hb3 BY HB'
          go_wp2
          go_roundw
          case rel => exact ⟨k + 1, by omega, by go_num, HN2.out, HB3.out⟩
          case measure => simp [intOf]; omega
    · obtain rfl : r = false := by rw [← HR.out, ← HNO.out, List.take_of_length_le (by rw [HN.out]; omega)]
      clear hno hb
      go_wp2
      go_ret2
      exact ⟨rfl, below_trans HB2.out HB.out⟩
end Go.Proofs.Ytnfobglaeaalfaa
