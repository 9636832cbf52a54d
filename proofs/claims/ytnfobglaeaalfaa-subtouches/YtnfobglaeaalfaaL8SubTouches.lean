/-
  The law SubTouches returns true at every input. Conditions: the numbers fit their kinds.
-/
import Derived.Test.YtnfobglaeaalfaaA10
namespace Go.Proofs.Ytnfobglaeaalfaa
open Go.RowKit
theorem Ps.ptrq {W : World} {ao : Option Addr} {n cap : Nat} {S : List (Int × Int)} (h : Ps W (.slice ao n cap) S) : 0 < n → ∃ b off, ao = some ⟨b, off, none⟩ := by
  obtain ⟨a, c, e, h2, _, _, h5⟩ := h
  cases e
  exact fun h0 => by obtain ⟨b, off, h6, _⟩ := h5 (by omega); exact ⟨b, off, h6⟩
/-- some of the first leaves are in both -/
def M.metQ (S T A : List (Int × Int)) : Bool := A.any fun s => M.inS S s.1 && M.inS T s.1
theorem M.metQ_next {S T A : List (Int × Int)} {k : Nat} {x : Int × Int} (h : A[k]? = some x) : M.metQ S T (A.take (k + 1)) = (M.metQ S T (A.take k) || (M.inS S x.1 && M.inS T x.1)) := by
  obtain ⟨hk, e⟩ := List.getElem?_eq_some_iff.1 h
  unfold M.metQ
  rw [List.take_succ_eq_append_getElem hk, List.any_append, e]
  simp
theorem M.first_has {h I J K L : Int} (hs : M.subB h I J = true) (ht : M.subB h K L = true) {x : Int × Int} (hx : 0 ≤ x.1 ∧ x.1 ≤ x.2 ∧ x.2 < M.p2 h) : (0 ≤ x.1 ∧ x.1 ≤ 18446744073709551615) ∧ M.shE h I J x.1 = 0 ∧ M.shV h I J x.1 = M.inS (M.lvs h I J) x.1 ∧ M.shE h K L x.1 = 0 ∧ M.shV h K L x.1 = M.inS (M.lvs h K L) x.1 := by
  have hh := M.ok_of (M.sub_of hs).1
  have hp := M.p2_32 hh.2.1
  have hl : M.leafE h x.1 = 0 := M.leafE_yes hh.1 hh.2.1 (by omega)
  obtain ⟨a, b⟩ := M.sh_yes hs hl
  obtain ⟨c, d⟩ := M.sh_yes ht hl
  exact ⟨⟨hx.1, by omega⟩, a, b, c, d⟩
set_option maxRecDepth 100000 in
set_option maxHeartbeats 4000000 in
theorem subTouches_no (h I J K L i : Int) (w : World) (hI : 0 ≤ I ∧ I ≤ 18446744073709551615) (hJ : 0 ≤ J ∧ J ≤ 18446744073709551615) (hK : 0 ≤ K ∧ K ≤ 18446744073709551615) (hL : 0 ≤ L ∧ L ≤ 18446744073709551615) (hn : ¬ (M.subB h I J = true ∧ M.subB h K L = true)) :
    Calls Try.prog 7 #[.int .i64 h, .agg #[.int .u64 I, .int .u64 J], .agg #[.int .u64 K, .int .u64 L], .int .u64 i] w fun e w' => e = .returned (.bool true) ∧ Below w.heap.size w w' := by
  obtain ⟨e1, e2⟩ := M.to_no hn
  clear hn
  have HA := hidq (fun o => (Below.refl _ w).alloc (Nat.le_refl w.heap.size) o)
  have X0 := (Bi.new w 24 I J).alloc (.cells #[.int .u64 K, .int .u64 L] 24)
  obtain ⟨X0a, X0b⟩ := X0.facts
  have Y0 := Bi.new1 w (.cells #[.int .u64 I, .int .u64 J] 24) 24 K L
  obtain ⟨Y0a, Y0b⟩ := Y0.facts
  have hB0 : Below w.heap.size w ((w.alloc (.cells #[.int .u64 I, .int .u64 J] 24)).alloc (.cells #[.int .u64 K, .int .u64 L] 24)) := below_one (HA.out _)
  clear HA
  have T1 := hidq trivial
  have T2 := hidq trivial
  go_enter Try.func7, Try.ntmps7
  go_wp2_with (first | (go_at_call 10; clear T1; refine (live8_any _).mono ?_; rintro e w1 ⟨rfl, hb1⟩; have X1 := (X0.below hb1); obtain ⟨X1a, X1b⟩ := X1.facts; clear X0 X0a X0b; have Y1 := (Y0.below hb1); obtain ⟨Y1a, Y1b⟩ := Y1.facts; clear Y0 Y0a Y0b; have hB1 := below_trans hB0 hb1) | (go_at_call 15; clear T2; refine (touch_any h I J K L _ hI hJ hK hL).mono ?_; rintro e w2 ⟨rfl, hb2⟩; have X2 := (X1.below hb2); obtain ⟨X2a, X2b⟩ := X2.facts; clear X1 X1a X1b; have Y2 := (Y1.below hb2); obtain ⟨Y2a, Y2b⟩ := Y2.facts; clear Y1 Y1a Y1b; have hB2 := below_trans hB1 hb2))
  go_ret
  exact ⟨rfl, hB2⟩
set_option maxRecDepth 100000 in
set_option maxHeartbeats 4000000 in
theorem subTouches_yes (h I J K L i : Int) (w : World) (hI : 0 ≤ I ∧ I ≤ 18446744073709551615) (hJ : 0 ≤ J ∧ J ≤ 18446744073709551615) (hK : 0 ≤ K ∧ K ≤ 18446744073709551615) (hL : 0 ≤ L ∧ L ≤ 18446744073709551615) (h4 : 0 ≤ i) (h5 : i ≤ 18446744073709551615) (hs : M.subB h I J = true) (ht : M.subB h K L = true) (g : Bool) (hg : decide (M.leafE h i = 0) = g) :
    Calls Try.prog 7 #[.int .i64 h, .agg #[.int .u64 I, .int .u64 J], .agg #[.int .u64 K, .int .u64 L], .int .u64 i] w fun e w' => e = .returned (.bool true) ∧ Below w.heap.size w w' := by
  obtain ⟨x1, x2, x3, -, -, -, -⟩ := M.lvs_facts hs
  obtain ⟨y1, y2, y3, -, -, -, -⟩ := M.lvs_facts ht
  have TC1 := hidq (fun X => touch_any h I J K L X hI hJ hK hL)
  have TC2 := hidq (fun X => touch_any h K L I J X hK hL hI hJ)
  have TC3 := hidq (fun X => touch_any h I J I J X hI hJ hI hJ)
  rw [(M.to_yes hs ht).1, (M.to_yes hs ht).2] at TC1
  rw [(M.to_yes ht hs).1, (M.to_yes ht hs).2, M.metB_comm] at TC2
  rw [(M.to_yes hs hs).1, (M.to_yes hs hs).2, M.own_met hs] at TC3
  have LA := hidq (fun X => leaves8_all h I J X hI.1 hI.2 hJ.1 hJ.2)
  have LB := hidq (fun X => leaves8_all h K L X hK.1 hK.2 hL.1 hL.2)
  rw [M.lvA_yes hs, M.subE_yes hs] at LA
  rw [M.lvA_yes ht, M.subE_yes ht] at LB
  have HFT : Hid (∀ x ∈ [] ++ M.lvs h I J ++ M.lvs h K L, 0 ≤ x.1 ∧ x.1 ≤ 18446744073709551615 ∧ 0 ≤ x.2 ∧ x.2 ≤ 18446744073709551615) := by
    intro x hx
    rw [List.nil_append, List.mem_append] at hx
    rcases hx with hx | hx
    · exact M.lvs_fit hs x hx
    · exact M.lvs_fit ht x hx
  have HH : Hid (∀ x ∈ [] ++ M.lvs h I J ++ M.lvs h K L, (0 ≤ x.1 ∧ x.1 ≤ 18446744073709551615) ∧ M.shE h I J x.1 = 0 ∧ M.shV h I J x.1 = M.inS (M.lvs h I J) x.1 ∧ M.shE h K L x.1 = 0 ∧ M.shV h K L x.1 = M.inS (M.lvs h K L) x.1) := by
    intro x hx
    rw [List.nil_append, List.mem_append] at hx
    rcases hx with hx | hx
    · exact M.first_has hs ht (x1 x hx)
    · exact M.first_has hs ht (y1 x hx)
  obtain ⟨r, hr⟩ : ∃ r, M.metB (M.lvs h I J) (M.lvs h K L) = r := ⟨_, rfl⟩
  have HM : Hid (M.metQ (M.lvs h I J) (M.lvs h K L) ([] ++ M.lvs h I J ++ M.lvs h K L) = r) := by
    show _ = _
    rw [List.nil_append, ← hr]
    exact M.met_low (fun s h' => (x1 s h').2.1) (fun s h' => (y1 s h').2.1)
  obtain ⟨p, hp⟩ : ∃ p, M.shV h I J i = p := ⟨_, rfl⟩
  obtain ⟨q, hq⟩ : ∃ q, M.shV h K L i = q := ⟨_, rfl⟩
  have HG : Hid (g = true → M.shE h I J i = 0 ∧ M.shE h K L i = 0 ∧ (p = true → q = true → r = true)) := fun h' => by
    subst h'
    have hl : M.leafE h i = 0 := of_decide_eq_true hg
    obtain ⟨a, b⟩ := M.sh_yes hs hl
    obtain ⟨c, d⟩ := M.sh_yes ht hl
    refine ⟨a, c, fun hp' hq' => ?_⟩
    rw [← hr, M.metB_iff (fun s h' => (x1 s h').2.1) (fun s h' => (y1 s h').2.1)]
    exact ⟨i, by rw [← b, hp, hp'], by rw [← d, hq, hq']⟩
  have HN : Hid (g = false → M.shE h I J i = 1 ∧ M.shE h K L i = 1) := fun h' => by
    subst h'
    have hl : ¬ M.leafE h i = 0 := of_decide_eq_false hg
    exact ⟨(M.sh_no (fun hx => hl hx.2)).1, (M.sh_no (fun hx => hl hx.2)).1⟩
  rw [hr] at TC1 TC2
  obtain ⟨i0, hi, hz0, hz1, hz2⟩ := info_parts Try.infoSpan
  clear x1 y1 hs ht hg hr
  generalize M.lvs h I J = S at *
  generalize M.lvs h K L = T at *
  have A1 := hidq trivial
  have hlen : ([] ++ S ++ T).length ≤ 4 := by rw [List.nil_append, List.length_append]; omega
  cases g with
  | true =>
    obtain ⟨E1, E2, E3⟩ := HG.out rfl
    clear HG HN
    cases p with
    | false =>
      clear E3
      have HA := hidq (fun o => (Below.refl _ w).alloc (Nat.le_refl w.heap.size) o)
      have X0 := (Bi.new w 24 I J).alloc (.cells #[.int .u64 K, .int .u64 L] 24)
      obtain ⟨X0a, X0b⟩ := X0.facts
      have Y0 := Bi.new1 w (.cells #[.int .u64 I, .int .u64 J] 24) 24 K L
      obtain ⟨Y0a, Y0b⟩ := Y0.facts
      have hB0 : Below w.heap.size w ((w.alloc (.cells #[.int .u64 I, .int .u64 J] 24)).alloc (.cells #[.int .u64 K, .int .u64 L] 24)) := below_one (HA.out _)
      clear HA
      have T1 := hidq trivial
      have T2 := hidq trivial
      have T3 := hidq trivial
      have T4 := hidq trivial
      have T5 := hidq trivial
      have T6 := hidq trivial
      have T7 := hidq trivial
      have T8 := hidq trivial
      go_enter Try.func7, Try.ntmps7
      go_wp2_with (first | (go_at_call 10; clear T1; refine (live8_any _).mono ?_; rintro e w1 ⟨rfl, hb1⟩; have X1 := (X0.below hb1); obtain ⟨X1a, X1b⟩ := X1.facts; clear X0 X0a X0b; have Y1 := (Y0.below hb1); obtain ⟨Y1a, Y1b⟩ := Y1.facts; clear Y0 Y0a Y0b; have hB1 := below_trans hB0 hb1) | (go_at_call 15; clear T2; refine (TC1.out _).mono ?_; rintro e w2 ⟨rfl, hb2⟩; have X2 := (X1.below hb2); obtain ⟨X2a, X2b⟩ := X2.facts; clear X1 X1a X1b; have Y2 := (Y1.below hb2); obtain ⟨Y2a, Y2b⟩ := Y2.facts; clear Y1 Y1a Y1b; have hB2 := below_trans hB1 hb2) | (go_at_call 15; clear T3; refine (TC2.out _).mono ?_; rintro e w3 ⟨rfl, hb3⟩; have X3 := (X2.below hb3); obtain ⟨X3a, X3b⟩ := X3.facts; clear X2 X2a X2b; have Y3 := (Y2.below hb3); obtain ⟨Y3a, Y3b⟩ := Y3.facts; clear Y2 Y2a Y2b; have hB3 := below_trans hB2 hb3) | (go_at_call 15; clear T4; refine (TC3.out _).mono ?_; rintro e w4 ⟨rfl, hb4⟩; have X4 := (X3.below hb4); obtain ⟨X4a, X4b⟩ := X4.facts; clear X3 X3a X3b; have Y4 := (Y3.below hb4); obtain ⟨Y4a, Y4b⟩ := Y4.facts; clear Y3 Y3a Y3b; have hB4 := below_trans hB3 hb4) | (go_at_call 13; clear T5; refine (has8_any h I J i _ hI.1 hI.2 hJ.1 hJ.2 h4 h5).mono ?_; rintro e w5 ⟨rfl, hb5⟩; have X5 := (X4.below hb5); obtain ⟨X5a, X5b⟩ := X5.facts; clear X4 X4a X4b; have Y5 := (Y4.below hb5); obtain ⟨Y5a, Y5b⟩ := Y5.facts; clear Y4 Y4a Y4b; have hB5 := below_trans hB4 hb5) | (go_at_call 13; clear T6; refine (has8_any h K L i _ hK.1 hK.2 hL.1 hL.2 h4 h5).mono ?_; rintro e w6 ⟨rfl, hb6⟩; have X6 := (X5.below hb6); obtain ⟨X6a, X6b⟩ := X6.facts; clear X5 X5a X5b; have Y6 := (Y5.below hb6); obtain ⟨Y6a, Y6b⟩ := Y6.facts; clear Y5 Y5a Y5b; have hB6 := below_trans hB5 hb6) | (go_at_call 11; clear T7; refine (LA.out _).mono ?_; rintro e w7 ⟨ao, cap, rfl, hs1, hb7⟩; have X7 := (X6.below hb7); obtain ⟨X7a, X7b⟩ := X7.facts; clear X6 X6a X6b; have Y7 := (Y6.below hb7); obtain ⟨Y7a, Y7b⟩ := Y7.facts; clear Y6 Y6a Y6b; have P7 := (hs1); have hB7 := below_trans hB6 hb7) | (go_at_call 11; clear T8; refine (LB.out _).mono ?_; rintro e w8 ⟨ao2, cap2, rfl, hs2, hb8⟩; have X8 := (X7.below hb8); obtain ⟨X8a, X8b⟩ := X8.facts; clear X7 X7a X7b; have Y8 := (Y7.below hb8); obtain ⟨Y8a, Y8b⟩ := Y8.facts; clear Y7 Y7a Y7b; have P8 := (P7.below hb8); clear P7; have Q8 := (hs2); have hB8 := below_trans hB7 hb8) | (at_builtin; clear A1; refine wpList_append_ps rfl _ _ 26 rfl w8.heap.size 48 i0 Try.underlying26 hi hz0 hz1 hz2 _ _ [] rfl (World.ownsRow_nil _ _ _ _) _ S rfl P8 (by omega) (by first | exact Nat.le_refl _ | simp) ?_; intro v7 w7' hown7 hgrow7; have hb7' := below_grown hgrow7 rfl; have Q7' := Q8.below hb7') | (at_builtin; refine wpList_append_ps rfl _ _ 26 rfl w8.heap.size 48 i0 Try.underlying26 hi hz0 hz1 hz2 _ _ ([] ++ S) rfl hown7 _ T rfl Q7' (by omega) hb7'.size ?_; intro v9 w9 hown9 hgrow9; have hb9 := hb7'.grown hgrow9 hb7'.size (fun q hq => (hown7.lt q hq).1); have hps := Ps.of_own hown9 HFT.out; obtain ⟨ao9, cap9, rfl, _⟩ := hps.form; clear hown9 hgrow9 hown7 hgrow7 Q7'; generalize [] ++ S ++ T = R at *; generalize hn : R.length = n at *; have HNN := hidq hn; clear hn))
      have XX := hidq (X8.below hb9)
      have YY := hidq (Y8.below hb9)
      have BB := hidq (below_trans hB8 hb9)
      have PP := hidq hps
      have F3 := hidq (Ps.ptrq hps)
      clear X8 X8a X8b Y8 Y8a Y8b hB8 hb8 P8 hps hb7' hb9 TC1 TC2 TC3 LA LB HFT hi hz0 hz1 hz2
      go_loopw [128, 24] (fun x t wr => ∃ (k : Nat) (q : Bool), k ≤ n ∧ x = .int .i64 k ∧ t = .bool q ∧ M.metQ S T (R.take k) = q ∧ Below w9.heap.size w9 wr) (fun x _ _ => n - (intOf x).toNat)
      case atStart => exact ⟨0, false, by omega, rfl, rfl, by simp [M.metQ], Below.refl _ _⟩
      case round =>
        obtain ⟨k, m, hk, rfl, rfl, hm, hb⟩ := hrel
        have HQ := hidq hm
        have HB := hidq hb
        clear hm
        by_cases hlt : k < n
        · obtain ⟨b1, o1, rfl⟩ := F3.out (by omega)
          obtain ⟨x, hx⟩ : ∃ x, R[k]? = some x := ⟨_, List.getElem?_eq_getElem (by rw [HNN.out]; exact hlt)⟩
          obtain ⟨c5, c6⟩ := Ps.at (PP.out.below hb) hx
          have HX := hidq (M.metQ_next (S := S) (T := T) hx)
          rw [HQ.out] at HX
          obtain ⟨⟨l1, l2⟩, l3, l4, l5, l6⟩ := HH.out x (List.mem_of_getElem? hx)
          obtain ⟨y, z⟩ := x
          dsimp only at c5 c6 HX l1 l2 l3 l4 l5 l6
          have HA1 := hidq (fun X => has8_any h I J y X hI.1 hI.2 hJ.1 hJ.2 l1 l2)
          have HB1 := hidq (fun X => has8_any h K L y X hK.1 hK.2 hL.1 hL.2 l1 l2)
          rw [l3, l4] at HA1
          rw [l5, l6] at HB1
          have X0 := (XX.out.below hb).alloc (.cells #[.int .u64 y, .int .u64 z] 48)
          have Y0 := (YY.out.below hb).alloc (.cells #[.int .u64 y, .int .u64 z] 48)
          have Z0 := Bi.new wr 48 y z
          obtain ⟨X0a, X0b⟩ := X0.facts
          obtain ⟨Y0a, Y0b⟩ := Y0.facts
          obtain ⟨Z0a, Z0b⟩ := Z0.facts
          have hB0 := below_one (o := .cells #[.int .u64 y, .int .u64 z] 48) hb
          clear hx hb l3 l4 l5 l6
          generalize M.inS S y = c at *
          generalize M.inS T y = d at *
          have T1 := hidq trivial
          have T2 := hidq trivial
          cases m with
          | true =>
            go_wp2_with (first | (go_at_call 13; clear T1; refine (HA1.out _).mono ?_; rintro e w1 ⟨rfl, hb1⟩; have X1 := (X0.below hb1); obtain ⟨X1a, X1b⟩ := X1.facts; clear X0 X0a X0b; have Y1 := (Y0.below hb1); obtain ⟨Y1a, Y1b⟩ := Y1.facts; clear Y0 Y0a Y0b; have Z1 := (Z0.below hb1); obtain ⟨Z1a, Z1b⟩ := Z1.facts; clear Z0 Z0a Z0b; have hB1 := below_trans hB0 hb1) | (go_at_call 13; clear T2; refine (HB1.out _).mono ?_; rintro e w2 ⟨rfl, hb2⟩; have X2 := (X1.below hb2); obtain ⟨X2a, X2b⟩ := X2.facts; clear X1 X1a X1b; have Y2 := (Y1.below hb2); obtain ⟨Y2a, Y2b⟩ := Y2.facts; clear Y1 Y1a Y1b; have Z2 := (Z1.below hb2); obtain ⟨Z2a, Z2b⟩ := Z2.facts; clear Z1 Z1a Z1b; have hB2 := below_trans hB1 hb2))
            go_roundw
            case rel => exact ⟨k + 1, true, by omega, by go_num, rfl, by rw [HX.out]; rfl, hB2⟩
            case measure => simp [intOf]; omega
          | false =>
            cases c with
            | true =>
              go_wp2_with (first | (go_at_call 13; clear T1; refine (HA1.out _).mono ?_; rintro e w1 ⟨rfl, hb1⟩; have X1 := (X0.below hb1); obtain ⟨X1a, X1b⟩ := X1.facts; clear X0 X0a X0b; have Y1 := (Y0.below hb1); obtain ⟨Y1a, Y1b⟩ := Y1.facts; clear Y0 Y0a Y0b; have Z1 := (Z0.below hb1); obtain ⟨Z1a, Z1b⟩ := Z1.facts; clear Z0 Z0a Z0b; have hB1 := below_trans hB0 hb1) | (go_at_call 13; clear T2; refine (HB1.out _).mono ?_; rintro e w2 ⟨rfl, hb2⟩; have X2 := (X1.below hb2); obtain ⟨X2a, X2b⟩ := X2.facts; clear X1 X1a X1b; have Y2 := (Y1.below hb2); obtain ⟨Y2a, Y2b⟩ := Y2.facts; clear Y1 Y1a Y1b; have Z2 := (Z1.below hb2); obtain ⟨Z2a, Z2b⟩ := Z2.facts; clear Z1 Z1a Z1b; have hB2 := below_trans hB1 hb2))
              go_roundw
              case rel => exact ⟨k + 1, d, by omega, by go_num, rfl, by rw [HX.out]; rfl, hB2⟩
              case measure => simp [intOf]; omega
            | false =>
              go_wp2_with (first | (go_at_call 13; clear T1; refine (HA1.out _).mono ?_; rintro e w1 ⟨rfl, hb1⟩; have X1 := (X0.below hb1); obtain ⟨X1a, X1b⟩ := X1.facts; clear X0 X0a X0b; have Y1 := (Y0.below hb1); obtain ⟨Y1a, Y1b⟩ := Y1.facts; clear Y0 Y0a Y0b; have Z1 := (Z0.below hb1); obtain ⟨Z1a, Z1b⟩ := Z1.facts; clear Z0 Z0a Z0b; have hB1 := below_trans hB0 hb1) | (go_at_call 13; clear T2; refine (HB1.out _).mono ?_; rintro e w2 ⟨rfl, hb2⟩; have X2 := (X1.below hb2); obtain ⟨X2a, X2b⟩ := X2.facts; clear X1 X1a X1b; have Y2 := (Y1.below hb2); obtain ⟨Y2a, Y2b⟩ := Y2.facts; clear Y1 Y1a Y1b; have Z2 := (Z1.below hb2); obtain ⟨Z2a, Z2b⟩ := Z2.facts; clear Z1 Z1a Z1b; have hB2 := below_trans hB1 hb2))
              go_roundw
              case rel => exact ⟨k + 1, false, by omega, by go_num, rfl, by rw [HX.out]; rfl, hB2⟩
              case measure => simp [intOf]; omega
        · obtain rfl : m = r := by rw [← HQ.out, ← HM.out, List.take_of_length_le (by rw [HNN.out]; omega)]
          clear hb
          go_wp2
          go_ret
          first | exact ⟨by simp, below_trans BB.out HB.out⟩ | exact ⟨rfl, below_trans BB.out HB.out⟩
    | true =>
      cases q with
      | false =>
        clear E3
        have HA := hidq (fun o => (Below.refl _ w).alloc (Nat.le_refl w.heap.size) o)
        have X0 := (Bi.new w 24 I J).alloc (.cells #[.int .u64 K, .int .u64 L] 24)
        obtain ⟨X0a, X0b⟩ := X0.facts
        have Y0 := Bi.new1 w (.cells #[.int .u64 I, .int .u64 J] 24) 24 K L
        obtain ⟨Y0a, Y0b⟩ := Y0.facts
        have hB0 : Below w.heap.size w ((w.alloc (.cells #[.int .u64 I, .int .u64 J] 24)).alloc (.cells #[.int .u64 K, .int .u64 L] 24)) := below_one (HA.out _)
        clear HA
        have T1 := hidq trivial
        have T2 := hidq trivial
        have T3 := hidq trivial
        have T4 := hidq trivial
        have T5 := hidq trivial
        have T6 := hidq trivial
        have T7 := hidq trivial
        have T8 := hidq trivial
        go_enter Try.func7, Try.ntmps7
        go_wp2_with (first | (go_at_call 10; clear T1; refine (live8_any _).mono ?_; rintro e w1 ⟨rfl, hb1⟩; have X1 := (X0.below hb1); obtain ⟨X1a, X1b⟩ := X1.facts; clear X0 X0a X0b; have Y1 := (Y0.below hb1); obtain ⟨Y1a, Y1b⟩ := Y1.facts; clear Y0 Y0a Y0b; have hB1 := below_trans hB0 hb1) | (go_at_call 15; clear T2; refine (TC1.out _).mono ?_; rintro e w2 ⟨rfl, hb2⟩; have X2 := (X1.below hb2); obtain ⟨X2a, X2b⟩ := X2.facts; clear X1 X1a X1b; have Y2 := (Y1.below hb2); obtain ⟨Y2a, Y2b⟩ := Y2.facts; clear Y1 Y1a Y1b; have hB2 := below_trans hB1 hb2) | (go_at_call 15; clear T3; refine (TC2.out _).mono ?_; rintro e w3 ⟨rfl, hb3⟩; have X3 := (X2.below hb3); obtain ⟨X3a, X3b⟩ := X3.facts; clear X2 X2a X2b; have Y3 := (Y2.below hb3); obtain ⟨Y3a, Y3b⟩ := Y3.facts; clear Y2 Y2a Y2b; have hB3 := below_trans hB2 hb3) | (go_at_call 15; clear T4; refine (TC3.out _).mono ?_; rintro e w4 ⟨rfl, hb4⟩; have X4 := (X3.below hb4); obtain ⟨X4a, X4b⟩ := X4.facts; clear X3 X3a X3b; have Y4 := (Y3.below hb4); obtain ⟨Y4a, Y4b⟩ := Y4.facts; clear Y3 Y3a Y3b; have hB4 := below_trans hB3 hb4) | (go_at_call 13; clear T5; refine (has8_any h I J i _ hI.1 hI.2 hJ.1 hJ.2 h4 h5).mono ?_; rintro e w5 ⟨rfl, hb5⟩; have X5 := (X4.below hb5); obtain ⟨X5a, X5b⟩ := X5.facts; clear X4 X4a X4b; have Y5 := (Y4.below hb5); obtain ⟨Y5a, Y5b⟩ := Y5.facts; clear Y4 Y4a Y4b; have hB5 := below_trans hB4 hb5) | (go_at_call 13; clear T6; refine (has8_any h K L i _ hK.1 hK.2 hL.1 hL.2 h4 h5).mono ?_; rintro e w6 ⟨rfl, hb6⟩; have X6 := (X5.below hb6); obtain ⟨X6a, X6b⟩ := X6.facts; clear X5 X5a X5b; have Y6 := (Y5.below hb6); obtain ⟨Y6a, Y6b⟩ := Y6.facts; clear Y5 Y5a Y5b; have hB6 := below_trans hB5 hb6) | (go_at_call 11; clear T7; refine (LA.out _).mono ?_; rintro e w7 ⟨ao, cap, rfl, hs1, hb7⟩; have X7 := (X6.below hb7); obtain ⟨X7a, X7b⟩ := X7.facts; clear X6 X6a X6b; have Y7 := (Y6.below hb7); obtain ⟨Y7a, Y7b⟩ := Y7.facts; clear Y6 Y6a Y6b; have P7 := (hs1); have hB7 := below_trans hB6 hb7) | (go_at_call 11; clear T8; refine (LB.out _).mono ?_; rintro e w8 ⟨ao2, cap2, rfl, hs2, hb8⟩; have X8 := (X7.below hb8); obtain ⟨X8a, X8b⟩ := X8.facts; clear X7 X7a X7b; have Y8 := (Y7.below hb8); obtain ⟨Y8a, Y8b⟩ := Y8.facts; clear Y7 Y7a Y7b; have P8 := (P7.below hb8); clear P7; have Q8 := (hs2); have hB8 := below_trans hB7 hb8) | (at_builtin; clear A1; refine wpList_append_ps rfl _ _ 26 rfl w8.heap.size 48 i0 Try.underlying26 hi hz0 hz1 hz2 _ _ [] rfl (World.ownsRow_nil _ _ _ _) _ S rfl P8 (by omega) (by first | exact Nat.le_refl _ | simp) ?_; intro v7 w7' hown7 hgrow7; have hb7' := below_grown hgrow7 rfl; have Q7' := Q8.below hb7') | (at_builtin; refine wpList_append_ps rfl _ _ 26 rfl w8.heap.size 48 i0 Try.underlying26 hi hz0 hz1 hz2 _ _ ([] ++ S) rfl hown7 _ T rfl Q7' (by omega) hb7'.size ?_; intro v9 w9 hown9 hgrow9; have hb9 := hb7'.grown hgrow9 hb7'.size (fun q hq => (hown7.lt q hq).1); have hps := Ps.of_own hown9 HFT.out; obtain ⟨ao9, cap9, rfl, _⟩ := hps.form; clear hown9 hgrow9 hown7 hgrow7 Q7'; generalize [] ++ S ++ T = R at *; generalize hn : R.length = n at *; have HNN := hidq hn; clear hn))
        have XX := hidq (X8.below hb9)
        have YY := hidq (Y8.below hb9)
        have BB := hidq (below_trans hB8 hb9)
        have PP := hidq hps
        have F3 := hidq (Ps.ptrq hps)
        clear X8 X8a X8b Y8 Y8a Y8b hB8 hb8 P8 hps hb7' hb9 TC1 TC2 TC3 LA LB HFT hi hz0 hz1 hz2
        go_loopw [128, 24] (fun x t wr => ∃ (k : Nat) (q : Bool), k ≤ n ∧ x = .int .i64 k ∧ t = .bool q ∧ M.metQ S T (R.take k) = q ∧ Below w9.heap.size w9 wr) (fun x _ _ => n - (intOf x).toNat)
        case atStart => exact ⟨0, false, by omega, rfl, rfl, by simp [M.metQ], Below.refl _ _⟩
        case round =>
          obtain ⟨k, m, hk, rfl, rfl, hm, hb⟩ := hrel
          have HQ := hidq hm
          have HB := hidq hb
          clear hm
          by_cases hlt : k < n
          · obtain ⟨b1, o1, rfl⟩ := F3.out (by omega)
            obtain ⟨x, hx⟩ : ∃ x, R[k]? = some x := ⟨_, List.getElem?_eq_getElem (by rw [HNN.out]; exact hlt)⟩
            obtain ⟨c5, c6⟩ := Ps.at (PP.out.below hb) hx
            have HX := hidq (M.metQ_next (S := S) (T := T) hx)
            rw [HQ.out] at HX
            obtain ⟨⟨l1, l2⟩, l3, l4, l5, l6⟩ := HH.out x (List.mem_of_getElem? hx)
            obtain ⟨y, z⟩ := x
            dsimp only at c5 c6 HX l1 l2 l3 l4 l5 l6
            have HA1 := hidq (fun X => has8_any h I J y X hI.1 hI.2 hJ.1 hJ.2 l1 l2)
            have HB1 := hidq (fun X => has8_any h K L y X hK.1 hK.2 hL.1 hL.2 l1 l2)
            rw [l3, l4] at HA1
            rw [l5, l6] at HB1
            have X0 := (XX.out.below hb).alloc (.cells #[.int .u64 y, .int .u64 z] 48)
            have Y0 := (YY.out.below hb).alloc (.cells #[.int .u64 y, .int .u64 z] 48)
            have Z0 := Bi.new wr 48 y z
            obtain ⟨X0a, X0b⟩ := X0.facts
            obtain ⟨Y0a, Y0b⟩ := Y0.facts
            obtain ⟨Z0a, Z0b⟩ := Z0.facts
            have hB0 := below_one (o := .cells #[.int .u64 y, .int .u64 z] 48) hb
            clear hx hb l3 l4 l5 l6
            generalize M.inS S y = c at *
            generalize M.inS T y = d at *
            have T1 := hidq trivial
            have T2 := hidq trivial
            cases m with
            | true =>
              go_wp2_with (first | (go_at_call 13; clear T1; refine (HA1.out _).mono ?_; rintro e w1 ⟨rfl, hb1⟩; have X1 := (X0.below hb1); obtain ⟨X1a, X1b⟩ := X1.facts; clear X0 X0a X0b; have Y1 := (Y0.below hb1); obtain ⟨Y1a, Y1b⟩ := Y1.facts; clear Y0 Y0a Y0b; have Z1 := (Z0.below hb1); obtain ⟨Z1a, Z1b⟩ := Z1.facts; clear Z0 Z0a Z0b; have hB1 := below_trans hB0 hb1) | (go_at_call 13; clear T2; refine (HB1.out _).mono ?_; rintro e w2 ⟨rfl, hb2⟩; have X2 := (X1.below hb2); obtain ⟨X2a, X2b⟩ := X2.facts; clear X1 X1a X1b; have Y2 := (Y1.below hb2); obtain ⟨Y2a, Y2b⟩ := Y2.facts; clear Y1 Y1a Y1b; have Z2 := (Z1.below hb2); obtain ⟨Z2a, Z2b⟩ := Z2.facts; clear Z1 Z1a Z1b; have hB2 := below_trans hB1 hb2))
              go_roundw
              case rel => exact ⟨k + 1, true, by omega, by go_num, rfl, by rw [HX.out]; rfl, hB2⟩
              case measure => simp [intOf]; omega
            | false =>
              cases c with
              | true =>
                go_wp2_with (first | (go_at_call 13; clear T1; refine (HA1.out _).mono ?_; rintro e w1 ⟨rfl, hb1⟩; have X1 := (X0.below hb1); obtain ⟨X1a, X1b⟩ := X1.facts; clear X0 X0a X0b; have Y1 := (Y0.below hb1); obtain ⟨Y1a, Y1b⟩ := Y1.facts; clear Y0 Y0a Y0b; have Z1 := (Z0.below hb1); obtain ⟨Z1a, Z1b⟩ := Z1.facts; clear Z0 Z0a Z0b; have hB1 := below_trans hB0 hb1) | (go_at_call 13; clear T2; refine (HB1.out _).mono ?_; rintro e w2 ⟨rfl, hb2⟩; have X2 := (X1.below hb2); obtain ⟨X2a, X2b⟩ := X2.facts; clear X1 X1a X1b; have Y2 := (Y1.below hb2); obtain ⟨Y2a, Y2b⟩ := Y2.facts; clear Y1 Y1a Y1b; have Z2 := (Z1.below hb2); obtain ⟨Z2a, Z2b⟩ := Z2.facts; clear Z1 Z1a Z1b; have hB2 := below_trans hB1 hb2))
                go_roundw
                case rel => exact ⟨k + 1, d, by omega, by go_num, rfl, by rw [HX.out]; rfl, hB2⟩
                case measure => simp [intOf]; omega
              | false =>
                go_wp2_with (first | (go_at_call 13; clear T1; refine (HA1.out _).mono ?_; rintro e w1 ⟨rfl, hb1⟩; have X1 := (X0.below hb1); obtain ⟨X1a, X1b⟩ := X1.facts; clear X0 X0a X0b; have Y1 := (Y0.below hb1); obtain ⟨Y1a, Y1b⟩ := Y1.facts; clear Y0 Y0a Y0b; have Z1 := (Z0.below hb1); obtain ⟨Z1a, Z1b⟩ := Z1.facts; clear Z0 Z0a Z0b; have hB1 := below_trans hB0 hb1) | (go_at_call 13; clear T2; refine (HB1.out _).mono ?_; rintro e w2 ⟨rfl, hb2⟩; have X2 := (X1.below hb2); obtain ⟨X2a, X2b⟩ := X2.facts; clear X1 X1a X1b; have Y2 := (Y1.below hb2); obtain ⟨Y2a, Y2b⟩ := Y2.facts; clear Y1 Y1a Y1b; have Z2 := (Z1.below hb2); obtain ⟨Z2a, Z2b⟩ := Z2.facts; clear Z1 Z1a Z1b; have hB2 := below_trans hB1 hb2))
                go_roundw
                case rel => exact ⟨k + 1, false, by omega, by go_num, rfl, by rw [HX.out]; rfl, hB2⟩
                case measure => simp [intOf]; omega
          · obtain rfl : m = r := by rw [← HQ.out, ← HM.out, List.take_of_length_le (by rw [HNN.out]; omega)]
            clear hb
            go_wp2
            go_ret
            first | exact ⟨by simp, below_trans BB.out HB.out⟩ | exact ⟨rfl, below_trans BB.out HB.out⟩
      | true =>
        obtain rfl := E3 rfl rfl
        clear E3
        have HA := hidq (fun o => (Below.refl _ w).alloc (Nat.le_refl w.heap.size) o)
        have X0 := (Bi.new w 24 I J).alloc (.cells #[.int .u64 K, .int .u64 L] 24)
        obtain ⟨X0a, X0b⟩ := X0.facts
        have Y0 := Bi.new1 w (.cells #[.int .u64 I, .int .u64 J] 24) 24 K L
        obtain ⟨Y0a, Y0b⟩ := Y0.facts
        have hB0 : Below w.heap.size w ((w.alloc (.cells #[.int .u64 I, .int .u64 J] 24)).alloc (.cells #[.int .u64 K, .int .u64 L] 24)) := below_one (HA.out _)
        clear HA
        have T1 := hidq trivial
        have T2 := hidq trivial
        have T3 := hidq trivial
        have T4 := hidq trivial
        have T5 := hidq trivial
        have T6 := hidq trivial
        have T7 := hidq trivial
        have T8 := hidq trivial
        go_enter Try.func7, Try.ntmps7
        go_wp2_with (first | (go_at_call 10; clear T1; refine (live8_any _).mono ?_; rintro e w1 ⟨rfl, hb1⟩; have X1 := (X0.below hb1); obtain ⟨X1a, X1b⟩ := X1.facts; clear X0 X0a X0b; have Y1 := (Y0.below hb1); obtain ⟨Y1a, Y1b⟩ := Y1.facts; clear Y0 Y0a Y0b; have hB1 := below_trans hB0 hb1) | (go_at_call 15; clear T2; refine (TC1.out _).mono ?_; rintro e w2 ⟨rfl, hb2⟩; have X2 := (X1.below hb2); obtain ⟨X2a, X2b⟩ := X2.facts; clear X1 X1a X1b; have Y2 := (Y1.below hb2); obtain ⟨Y2a, Y2b⟩ := Y2.facts; clear Y1 Y1a Y1b; have hB2 := below_trans hB1 hb2) | (go_at_call 15; clear T3; refine (TC2.out _).mono ?_; rintro e w3 ⟨rfl, hb3⟩; have X3 := (X2.below hb3); obtain ⟨X3a, X3b⟩ := X3.facts; clear X2 X2a X2b; have Y3 := (Y2.below hb3); obtain ⟨Y3a, Y3b⟩ := Y3.facts; clear Y2 Y2a Y2b; have hB3 := below_trans hB2 hb3) | (go_at_call 15; clear T4; refine (TC3.out _).mono ?_; rintro e w4 ⟨rfl, hb4⟩; have X4 := (X3.below hb4); obtain ⟨X4a, X4b⟩ := X4.facts; clear X3 X3a X3b; have Y4 := (Y3.below hb4); obtain ⟨Y4a, Y4b⟩ := Y4.facts; clear Y3 Y3a Y3b; have hB4 := below_trans hB3 hb4) | (go_at_call 13; clear T5; refine (has8_any h I J i _ hI.1 hI.2 hJ.1 hJ.2 h4 h5).mono ?_; rintro e w5 ⟨rfl, hb5⟩; have X5 := (X4.below hb5); obtain ⟨X5a, X5b⟩ := X5.facts; clear X4 X4a X4b; have Y5 := (Y4.below hb5); obtain ⟨Y5a, Y5b⟩ := Y5.facts; clear Y4 Y4a Y4b; have hB5 := below_trans hB4 hb5) | (go_at_call 13; clear T6; refine (has8_any h K L i _ hK.1 hK.2 hL.1 hL.2 h4 h5).mono ?_; rintro e w6 ⟨rfl, hb6⟩; have X6 := (X5.below hb6); obtain ⟨X6a, X6b⟩ := X6.facts; clear X5 X5a X5b; have Y6 := (Y5.below hb6); obtain ⟨Y6a, Y6b⟩ := Y6.facts; clear Y5 Y5a Y5b; have hB6 := below_trans hB5 hb6) | (go_at_call 11; clear T7; refine (LA.out _).mono ?_; rintro e w7 ⟨ao, cap, rfl, hs1, hb7⟩; have X7 := (X6.below hb7); obtain ⟨X7a, X7b⟩ := X7.facts; clear X6 X6a X6b; have Y7 := (Y6.below hb7); obtain ⟨Y7a, Y7b⟩ := Y7.facts; clear Y6 Y6a Y6b; have P7 := (hs1); have hB7 := below_trans hB6 hb7) | (go_at_call 11; clear T8; refine (LB.out _).mono ?_; rintro e w8 ⟨ao2, cap2, rfl, hs2, hb8⟩; have X8 := (X7.below hb8); obtain ⟨X8a, X8b⟩ := X8.facts; clear X7 X7a X7b; have Y8 := (Y7.below hb8); obtain ⟨Y8a, Y8b⟩ := Y8.facts; clear Y7 Y7a Y7b; have P8 := (P7.below hb8); clear P7; have Q8 := (hs2); have hB8 := below_trans hB7 hb8) | (at_builtin; clear A1; refine wpList_append_ps rfl _ _ 26 rfl w8.heap.size 48 i0 Try.underlying26 hi hz0 hz1 hz2 _ _ [] rfl (World.ownsRow_nil _ _ _ _) _ S rfl P8 (by omega) (by first | exact Nat.le_refl _ | simp) ?_; intro v7 w7' hown7 hgrow7; have hb7' := below_grown hgrow7 rfl; have Q7' := Q8.below hb7') | (at_builtin; refine wpList_append_ps rfl _ _ 26 rfl w8.heap.size 48 i0 Try.underlying26 hi hz0 hz1 hz2 _ _ ([] ++ S) rfl hown7 _ T rfl Q7' (by omega) hb7'.size ?_; intro v9 w9 hown9 hgrow9; have hb9 := hb7'.grown hgrow9 hb7'.size (fun q hq => (hown7.lt q hq).1); have hps := Ps.of_own hown9 HFT.out; obtain ⟨ao9, cap9, rfl, _⟩ := hps.form; clear hown9 hgrow9 hown7 hgrow7 Q7'; generalize [] ++ S ++ T = R at *; generalize hn : R.length = n at *; have HNN := hidq hn; clear hn))
        have XX := hidq (X8.below hb9)
        have YY := hidq (Y8.below hb9)
        have BB := hidq (below_trans hB8 hb9)
        have PP := hidq hps
        have F3 := hidq (Ps.ptrq hps)
        clear X8 X8a X8b Y8 Y8a Y8b hB8 hb8 P8 hps hb7' hb9 TC1 TC2 TC3 LA LB HFT hi hz0 hz1 hz2
        go_loopw [128, 24] (fun x t wr => ∃ (k : Nat) (q : Bool), k ≤ n ∧ x = .int .i64 k ∧ t = .bool q ∧ M.metQ S T (R.take k) = q ∧ Below w9.heap.size w9 wr) (fun x _ _ => n - (intOf x).toNat)
        case atStart => exact ⟨0, false, by omega, rfl, rfl, by simp [M.metQ], Below.refl _ _⟩
        case round =>
          obtain ⟨k, m, hk, rfl, rfl, hm, hb⟩ := hrel
          have HQ := hidq hm
          have HB := hidq hb
          clear hm
          by_cases hlt : k < n
          · obtain ⟨b1, o1, rfl⟩ := F3.out (by omega)
            obtain ⟨x, hx⟩ : ∃ x, R[k]? = some x := ⟨_, List.getElem?_eq_getElem (by rw [HNN.out]; exact hlt)⟩
            obtain ⟨c5, c6⟩ := Ps.at (PP.out.below hb) hx
            have HX := hidq (M.metQ_next (S := S) (T := T) hx)
            rw [HQ.out] at HX
            obtain ⟨⟨l1, l2⟩, l3, l4, l5, l6⟩ := HH.out x (List.mem_of_getElem? hx)
            obtain ⟨y, z⟩ := x
            dsimp only at c5 c6 HX l1 l2 l3 l4 l5 l6
            have HA1 := hidq (fun X => has8_any h I J y X hI.1 hI.2 hJ.1 hJ.2 l1 l2)
            have HB1 := hidq (fun X => has8_any h K L y X hK.1 hK.2 hL.1 hL.2 l1 l2)
            rw [l3, l4] at HA1
            rw [l5, l6] at HB1
            have X0 := (XX.out.below hb).alloc (.cells #[.int .u64 y, .int .u64 z] 48)
            have Y0 := (YY.out.below hb).alloc (.cells #[.int .u64 y, .int .u64 z] 48)
            have Z0 := Bi.new wr 48 y z
            obtain ⟨X0a, X0b⟩ := X0.facts
            obtain ⟨Y0a, Y0b⟩ := Y0.facts
            obtain ⟨Z0a, Z0b⟩ := Z0.facts
            have hB0 := below_one (o := .cells #[.int .u64 y, .int .u64 z] 48) hb
            clear hx hb l3 l4 l5 l6
            generalize M.inS S y = c at *
            generalize M.inS T y = d at *
            have T1 := hidq trivial
            have T2 := hidq trivial
            cases m with
            | true =>
              go_wp2_with (first | (go_at_call 13; clear T1; refine (HA1.out _).mono ?_; rintro e w1 ⟨rfl, hb1⟩; have X1 := (X0.below hb1); obtain ⟨X1a, X1b⟩ := X1.facts; clear X0 X0a X0b; have Y1 := (Y0.below hb1); obtain ⟨Y1a, Y1b⟩ := Y1.facts; clear Y0 Y0a Y0b; have Z1 := (Z0.below hb1); obtain ⟨Z1a, Z1b⟩ := Z1.facts; clear Z0 Z0a Z0b; have hB1 := below_trans hB0 hb1) | (go_at_call 13; clear T2; refine (HB1.out _).mono ?_; rintro e w2 ⟨rfl, hb2⟩; have X2 := (X1.below hb2); obtain ⟨X2a, X2b⟩ := X2.facts; clear X1 X1a X1b; have Y2 := (Y1.below hb2); obtain ⟨Y2a, Y2b⟩ := Y2.facts; clear Y1 Y1a Y1b; have Z2 := (Z1.below hb2); obtain ⟨Z2a, Z2b⟩ := Z2.facts; clear Z1 Z1a Z1b; have hB2 := below_trans hB1 hb2))
              go_roundw
              case rel => exact ⟨k + 1, true, by omega, by go_num, rfl, by rw [HX.out]; rfl, hB2⟩
              case measure => simp [intOf]; omega
            | false =>
              cases c with
              | true =>
                go_wp2_with (first | (go_at_call 13; clear T1; refine (HA1.out _).mono ?_; rintro e w1 ⟨rfl, hb1⟩; have X1 := (X0.below hb1); obtain ⟨X1a, X1b⟩ := X1.facts; clear X0 X0a X0b; have Y1 := (Y0.below hb1); obtain ⟨Y1a, Y1b⟩ := Y1.facts; clear Y0 Y0a Y0b; have Z1 := (Z0.below hb1); obtain ⟨Z1a, Z1b⟩ := Z1.facts; clear Z0 Z0a Z0b; have hB1 := below_trans hB0 hb1) | (go_at_call 13; clear T2; refine (HB1.out _).mono ?_; rintro e w2 ⟨rfl, hb2⟩; have X2 := (X1.below hb2); obtain ⟨X2a, X2b⟩ := X2.facts; clear X1 X1a X1b; have Y2 := (Y1.below hb2); obtain ⟨Y2a, Y2b⟩ := Y2.facts; clear Y1 Y1a Y1b; have Z2 := (Z1.below hb2); obtain ⟨Z2a, Z2b⟩ := Z2.facts; clear Z1 Z1a Z1b; have hB2 := below_trans hB1 hb2))
                go_roundw
                case rel => exact ⟨k + 1, d, by omega, by go_num, rfl, by rw [HX.out]; rfl, hB2⟩
                case measure => simp [intOf]; omega
              | false =>
                go_wp2_with (first | (go_at_call 13; clear T1; refine (HA1.out _).mono ?_; rintro e w1 ⟨rfl, hb1⟩; have X1 := (X0.below hb1); obtain ⟨X1a, X1b⟩ := X1.facts; clear X0 X0a X0b; have Y1 := (Y0.below hb1); obtain ⟨Y1a, Y1b⟩ := Y1.facts; clear Y0 Y0a Y0b; have Z1 := (Z0.below hb1); obtain ⟨Z1a, Z1b⟩ := Z1.facts; clear Z0 Z0a Z0b; have hB1 := below_trans hB0 hb1) | (go_at_call 13; clear T2; refine (HB1.out _).mono ?_; rintro e w2 ⟨rfl, hb2⟩; have X2 := (X1.below hb2); obtain ⟨X2a, X2b⟩ := X2.facts; clear X1 X1a X1b; have Y2 := (Y1.below hb2); obtain ⟨Y2a, Y2b⟩ := Y2.facts; clear Y1 Y1a Y1b; have Z2 := (Z1.below hb2); obtain ⟨Z2a, Z2b⟩ := Z2.facts; clear Z1 Z1a Z1b; have hB2 := below_trans hB1 hb2))
                go_roundw
                case rel => exact ⟨k + 1, false, by omega, by go_num, rfl, by rw [HX.out]; rfl, hB2⟩
                case measure => simp [intOf]; omega
          · obtain rfl : m = true := by rw [← HQ.out, ← HM.out, List.take_of_length_le (by rw [HNN.out]; omega)]
            clear hb
            go_wp2
            go_ret
            first | exact ⟨by simp, below_trans BB.out HB.out⟩ | exact ⟨rfl, below_trans BB.out HB.out⟩
  | false =>
    obtain ⟨E1, E2⟩ := HN.out rfl
    clear HG HN
    have HA := hidq (fun o => (Below.refl _ w).alloc (Nat.le_refl w.heap.size) o)
    have X0 := (Bi.new w 24 I J).alloc (.cells #[.int .u64 K, .int .u64 L] 24)
    obtain ⟨X0a, X0b⟩ := X0.facts
    have Y0 := Bi.new1 w (.cells #[.int .u64 I, .int .u64 J] 24) 24 K L
    obtain ⟨Y0a, Y0b⟩ := Y0.facts
    have hB0 : Below w.heap.size w ((w.alloc (.cells #[.int .u64 I, .int .u64 J] 24)).alloc (.cells #[.int .u64 K, .int .u64 L] 24)) := below_one (HA.out _)
    clear HA
    have T1 := hidq trivial
    have T2 := hidq trivial
    have T3 := hidq trivial
    have T4 := hidq trivial
    have T5 := hidq trivial
    have T6 := hidq trivial
    have T7 := hidq trivial
    have T8 := hidq trivial
    go_enter Try.func7, Try.ntmps7
    go_wp2_with (first | (go_at_call 10; clear T1; refine (live8_any _).mono ?_; rintro e w1 ⟨rfl, hb1⟩; have X1 := (X0.below hb1); obtain ⟨X1a, X1b⟩ := X1.facts; clear X0 X0a X0b; have Y1 := (Y0.below hb1); obtain ⟨Y1a, Y1b⟩ := Y1.facts; clear Y0 Y0a Y0b; have hB1 := below_trans hB0 hb1) | (go_at_call 15; clear T2; refine (TC1.out _).mono ?_; rintro e w2 ⟨rfl, hb2⟩; have X2 := (X1.below hb2); obtain ⟨X2a, X2b⟩ := X2.facts; clear X1 X1a X1b; have Y2 := (Y1.below hb2); obtain ⟨Y2a, Y2b⟩ := Y2.facts; clear Y1 Y1a Y1b; have hB2 := below_trans hB1 hb2) | (go_at_call 15; clear T3; refine (TC2.out _).mono ?_; rintro e w3 ⟨rfl, hb3⟩; have X3 := (X2.below hb3); obtain ⟨X3a, X3b⟩ := X3.facts; clear X2 X2a X2b; have Y3 := (Y2.below hb3); obtain ⟨Y3a, Y3b⟩ := Y3.facts; clear Y2 Y2a Y2b; have hB3 := below_trans hB2 hb3) | (go_at_call 15; clear T4; refine (TC3.out _).mono ?_; rintro e w4 ⟨rfl, hb4⟩; have X4 := (X3.below hb4); obtain ⟨X4a, X4b⟩ := X4.facts; clear X3 X3a X3b; have Y4 := (Y3.below hb4); obtain ⟨Y4a, Y4b⟩ := Y4.facts; clear Y3 Y3a Y3b; have hB4 := below_trans hB3 hb4) | (go_at_call 13; clear T5; refine (has8_any h I J i _ hI.1 hI.2 hJ.1 hJ.2 h4 h5).mono ?_; rintro e w5 ⟨rfl, hb5⟩; have X5 := (X4.below hb5); obtain ⟨X5a, X5b⟩ := X5.facts; clear X4 X4a X4b; have Y5 := (Y4.below hb5); obtain ⟨Y5a, Y5b⟩ := Y5.facts; clear Y4 Y4a Y4b; have hB5 := below_trans hB4 hb5) | (go_at_call 13; clear T6; refine (has8_any h K L i _ hK.1 hK.2 hL.1 hL.2 h4 h5).mono ?_; rintro e w6 ⟨rfl, hb6⟩; have X6 := (X5.below hb6); obtain ⟨X6a, X6b⟩ := X6.facts; clear X5 X5a X5b; have Y6 := (Y5.below hb6); obtain ⟨Y6a, Y6b⟩ := Y6.facts; clear Y5 Y5a Y5b; have hB6 := below_trans hB5 hb6) | (go_at_call 11; clear T7; refine (LA.out _).mono ?_; rintro e w7 ⟨ao, cap, rfl, hs1, hb7⟩; have X7 := (X6.below hb7); obtain ⟨X7a, X7b⟩ := X7.facts; clear X6 X6a X6b; have Y7 := (Y6.below hb7); obtain ⟨Y7a, Y7b⟩ := Y7.facts; clear Y6 Y6a Y6b; have P7 := (hs1); have hB7 := below_trans hB6 hb7) | (go_at_call 11; clear T8; refine (LB.out _).mono ?_; rintro e w8 ⟨ao2, cap2, rfl, hs2, hb8⟩; have X8 := (X7.below hb8); obtain ⟨X8a, X8b⟩ := X8.facts; clear X7 X7a X7b; have Y8 := (Y7.below hb8); obtain ⟨Y8a, Y8b⟩ := Y8.facts; clear Y7 Y7a Y7b; have P8 := (P7.below hb8); clear P7; have Q8 := (hs2); have hB8 := below_trans hB7 hb8) | (at_builtin; clear A1; refine wpList_append_ps rfl _ _ 26 rfl w8.heap.size 48 i0 Try.underlying26 hi hz0 hz1 hz2 _ _ [] rfl (World.ownsRow_nil _ _ _ _) _ S rfl P8 (by omega) (by first | exact Nat.le_refl _ | simp) ?_; intro v7 w7' hown7 hgrow7; have hb7' := below_grown hgrow7 rfl; have Q7' := Q8.below hb7') | (at_builtin; refine wpList_append_ps rfl _ _ 26 rfl w8.heap.size 48 i0 Try.underlying26 hi hz0 hz1 hz2 _ _ ([] ++ S) rfl hown7 _ T rfl Q7' (by omega) hb7'.size ?_; intro v9 w9 hown9 hgrow9; have hb9 := hb7'.grown hgrow9 hb7'.size (fun q hq => (hown7.lt q hq).1); have hps := Ps.of_own hown9 HFT.out; obtain ⟨ao9, cap9, rfl, _⟩ := hps.form; clear hown9 hgrow9 hown7 hgrow7 Q7'; generalize [] ++ S ++ T = R at *; generalize hn : R.length = n at *; have HNN := hidq hn; clear hn))
    have XX := hidq (X8.below hb9)
    have YY := hidq (Y8.below hb9)
    have BB := hidq (below_trans hB8 hb9)
    have PP := hidq hps
    have F3 := hidq (Ps.ptrq hps)
    clear X8 X8a X8b Y8 Y8a Y8b hB8 hb8 P8 hps hb7' hb9 TC1 TC2 TC3 LA LB HFT hi hz0 hz1 hz2
    go_loopw [128, 24] (fun x t wr => ∃ (k : Nat) (q : Bool), k ≤ n ∧ x = .int .i64 k ∧ t = .bool q ∧ M.metQ S T (R.take k) = q ∧ Below w9.heap.size w9 wr) (fun x _ _ => n - (intOf x).toNat)
    case atStart => exact ⟨0, false, by omega, rfl, rfl, by simp [M.metQ], Below.refl _ _⟩
    case round =>
      obtain ⟨k, m, hk, rfl, rfl, hm, hb⟩ := hrel
      have HQ := hidq hm
      have HB := hidq hb
      clear hm
      by_cases hlt : k < n
      · obtain ⟨b1, o1, rfl⟩ := F3.out (by omega)
        obtain ⟨x, hx⟩ : ∃ x, R[k]? = some x := ⟨_, List.getElem?_eq_getElem (by rw [HNN.out]; exact hlt)⟩
        obtain ⟨c5, c6⟩ := Ps.at (PP.out.below hb) hx
        have HX := hidq (M.metQ_next (S := S) (T := T) hx)
        rw [HQ.out] at HX
        obtain ⟨⟨l1, l2⟩, l3, l4, l5, l6⟩ := HH.out x (List.mem_of_getElem? hx)
        obtain ⟨y, z⟩ := x
        dsimp only at c5 c6 HX l1 l2 l3 l4 l5 l6
        have HA1 := hidq (fun X => has8_any h I J y X hI.1 hI.2 hJ.1 hJ.2 l1 l2)
        have HB1 := hidq (fun X => has8_any h K L y X hK.1 hK.2 hL.1 hL.2 l1 l2)
        rw [l3, l4] at HA1
        rw [l5, l6] at HB1
        have X0 := (XX.out.below hb).alloc (.cells #[.int .u64 y, .int .u64 z] 48)
        have Y0 := (YY.out.below hb).alloc (.cells #[.int .u64 y, .int .u64 z] 48)
        have Z0 := Bi.new wr 48 y z
        obtain ⟨X0a, X0b⟩ := X0.facts
        obtain ⟨Y0a, Y0b⟩ := Y0.facts
        obtain ⟨Z0a, Z0b⟩ := Z0.facts
        have hB0 := below_one (o := .cells #[.int .u64 y, .int .u64 z] 48) hb
        clear hx hb l3 l4 l5 l6
        generalize M.inS S y = c at *
        generalize M.inS T y = d at *
        have T1 := hidq trivial
        have T2 := hidq trivial
        cases m with
        | true =>
          go_wp2_with (first | (go_at_call 13; clear T1; refine (HA1.out _).mono ?_; rintro e w1 ⟨rfl, hb1⟩; have X1 := (X0.below hb1); obtain ⟨X1a, X1b⟩ := X1.facts; clear X0 X0a X0b; have Y1 := (Y0.below hb1); obtain ⟨Y1a, Y1b⟩ := Y1.facts; clear Y0 Y0a Y0b; have Z1 := (Z0.below hb1); obtain ⟨Z1a, Z1b⟩ := Z1.facts; clear Z0 Z0a Z0b; have hB1 := below_trans hB0 hb1) | (go_at_call 13; clear T2; refine (HB1.out _).mono ?_; rintro e w2 ⟨rfl, hb2⟩; have X2 := (X1.below hb2); obtain ⟨X2a, X2b⟩ := X2.facts; clear X1 X1a X1b; have Y2 := (Y1.below hb2); obtain ⟨Y2a, Y2b⟩ := Y2.facts; clear Y1 Y1a Y1b; have Z2 := (Z1.below hb2); obtain ⟨Z2a, Z2b⟩ := Z2.facts; clear Z1 Z1a Z1b; have hB2 := below_trans hB1 hb2))
          go_roundw
          case rel => exact ⟨k + 1, true, by omega, by go_num, rfl, by rw [HX.out]; rfl, hB2⟩
          case measure => simp [intOf]; omega
        | false =>
          cases c with
          | true =>
            go_wp2_with (first | (go_at_call 13; clear T1; refine (HA1.out _).mono ?_; rintro e w1 ⟨rfl, hb1⟩; have X1 := (X0.below hb1); obtain ⟨X1a, X1b⟩ := X1.facts; clear X0 X0a X0b; have Y1 := (Y0.below hb1); obtain ⟨Y1a, Y1b⟩ := Y1.facts; clear Y0 Y0a Y0b; have Z1 := (Z0.below hb1); obtain ⟨Z1a, Z1b⟩ := Z1.facts; clear Z0 Z0a Z0b; have hB1 := below_trans hB0 hb1) | (go_at_call 13; clear T2; refine (HB1.out _).mono ?_; rintro e w2 ⟨rfl, hb2⟩; have X2 := (X1.below hb2); obtain ⟨X2a, X2b⟩ := X2.facts; clear X1 X1a X1b; have Y2 := (Y1.below hb2); obtain ⟨Y2a, Y2b⟩ := Y2.facts; clear Y1 Y1a Y1b; have Z2 := (Z1.below hb2); obtain ⟨Z2a, Z2b⟩ := Z2.facts; clear Z1 Z1a Z1b; have hB2 := below_trans hB1 hb2))
            go_roundw
            case rel => exact ⟨k + 1, d, by omega, by go_num, rfl, by rw [HX.out]; rfl, hB2⟩
            case measure => simp [intOf]; omega
          | false =>
            go_wp2_with (first | (go_at_call 13; clear T1; refine (HA1.out _).mono ?_; rintro e w1 ⟨rfl, hb1⟩; have X1 := (X0.below hb1); obtain ⟨X1a, X1b⟩ := X1.facts; clear X0 X0a X0b; have Y1 := (Y0.below hb1); obtain ⟨Y1a, Y1b⟩ := Y1.facts; clear Y0 Y0a Y0b; have Z1 := (Z0.below hb1); obtain ⟨Z1a, Z1b⟩ := Z1.facts; clear Z0 Z0a Z0b; have hB1 := below_trans hB0 hb1) | (go_at_call 13; clear T2; refine (HB1.out _).mono ?_; rintro e w2 ⟨rfl, hb2⟩; have X2 := (X1.below hb2); obtain ⟨X2a, X2b⟩ := X2.facts; clear X1 X1a X1b; have Y2 := (Y1.below hb2); obtain ⟨Y2a, Y2b⟩ := Y2.facts; clear Y1 Y1a Y1b; have Z2 := (Z1.below hb2); obtain ⟨Z2a, Z2b⟩ := Z2.facts; clear Z1 Z1a Z1b; have hB2 := below_trans hB1 hb2))
            go_roundw
            case rel => exact ⟨k + 1, false, by omega, by go_num, rfl, by rw [HX.out]; rfl, hB2⟩
            case measure => simp [intOf]; omega
      · obtain rfl : m = r := by rw [← HQ.out, ← HM.out, List.take_of_length_le (by rw [HNN.out]; omega)]
        clear hb
        go_wp2
        go_ret
        first | exact ⟨by simp, below_trans BB.out HB.out⟩ | exact ⟨rfl, below_trans BB.out HB.out⟩
theorem subTouches_walk (h : Int) (a b : Int × Int) (i : Int) (w : World) (_h0 : -9223372036854775808 ≤ h) (_h1 : h ≤ 9223372036854775807) (ha : M.fitS a) (hb : M.fitS b) (h4 : 0 ≤ i) (h5 : i ≤ 18446744073709551615) :
    Calls Try.prog 7 #[.int .i64 h, .agg #[.int .u64 a.1, .int .u64 a.2], .agg #[.int .u64 b.1, .int .u64 b.2], .int .u64 i] w fun e w' => e = .returned (.bool true) ∧ Below w.heap.size w w' := by
  obtain ⟨I, J⟩ := a
  obtain ⟨hI, hJ⟩ := ha
  obtain ⟨K, L⟩ := b
  obtain ⟨hK, hL⟩ := hb
  dsimp only at hI hJ hK hL ⊢
  by_cases hn : M.subB h I J = true ∧ M.subB h K L = true
  · exact subTouches_yes h I J K L i w hI hJ hK hL h4 h5 hn.1 hn.2 _ rfl
  · exact subTouches_no h I J K L i w hI hJ hK hL hn
end Go.Proofs.Ytnfobglaeaalfaa
