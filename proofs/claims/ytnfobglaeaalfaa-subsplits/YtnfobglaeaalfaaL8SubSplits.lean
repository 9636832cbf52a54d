/-
  The law SubSplits returns true at every input. Conditions: the numbers fit their kinds.
-/
import Derived.Test.YtnfobglaeaalfaaA10
import Derived.Deep.RegionHeld3
namespace Go.Proofs.Ytnfobglaeaalfaa
open Go.RowKit
theorem Ss.ptr8 {W : World} {ao : Option Addr} {n cap : Nat} {S : List (Int × Int)} (h : Ss W (.slice ao n cap) S) : 0 < n → ∃ b off, ao = some ⟨b, off, none⟩ := by
  obtain ⟨a, c, e, h2, _, h5⟩ := h.form
  cases e
  exact fun h0 => h5 (by omega)
theorem Ss.at0 {W : World} {b off n cap : Nat} {L : List (Int × Int)} (h : Ss W (.slice (some ⟨b, off, none⟩) n cap) L) {x : Int × Int} (hk : L[0]? = some x) :
    W.cell? ⟨b, off, none⟩ = some (.int .u64 x.1) ∧ W.cell? ⟨b, off + 1, none⟩ = some (.int .u64 x.2) := by
  have := Ss.at h hk
  rw [Nat.zero_mul, Nat.add_zero] at this
  exact this
theorem Ss.at1 {W : World} {b off n cap : Nat} {L : List (Int × Int)} (h : Ss W (.slice (some ⟨b, off, none⟩) n cap) L) {x : Int × Int} (hk : L[1]? = some x) :
    W.cell? ⟨b, off + 2, none⟩ = some (.int .u64 x.1) ∧ W.cell? ⟨b, off + 2 + 1, none⟩ = some (.int .u64 x.2) := by
  have := Ss.at h hk
  rw [Nat.one_mul] at this
  exact this
set_option maxRecDepth 100000 in
set_option maxHeartbeats 4000000 in
theorem subSplits_no (h I J i : Int) (w : World) (hI : 0 ≤ I ∧ I ≤ 18446744073709551615) (hJ : 0 ≤ J ∧ J ≤ 18446744073709551615) (hs : M.subB h I J = false) :
    Calls Try.prog 6 #[.int .i64 h, .agg #[.int .u64 I, .int .u64 J], .int .u64 i] w fun e w' => e = .returned (.bool true) ∧ Below w.heap.size w w' := by
  have LA := M.spA_no hs
  have E := M.subE_no hs
  clear hs
  have HA := hidq (fun o => (Below.refl _ w).alloc (Nat.le_refl w.heap.size) o)
  have X0 := Bi.new w 24 I J
  obtain ⟨X0a, X0b⟩ := X0.facts
  have hB0 : Below w.heap.size w (w.alloc (.cells #[.int .u64 I, .int .u64 J] 24)) := HA.out _
  clear HA
  have T1 := hidq trivial
  have T2 := hidq trivial
  go_enter Try.func6, Try.ntmps6
  go_wp2_with (first | (go_at_call 10; clear T1; refine (live8_any _).mono ?_; rintro e w1 ⟨rfl, hb1⟩; have X1 := (X0.below hb1); obtain ⟨X1a, X1b⟩ := X1.facts; clear X0 X0a X0b; have hB1 := below_trans hB0 hb1) | (go_at_call 26; clear T2; refine (split_all h I J _ hI.1 hI.2 hJ.1 hJ.2).mono ?_; rintro e w2 ⟨ao, cap, rfl, _, hb2⟩; have X2 := (X1.below hb2); obtain ⟨X2a, X2b⟩ := X2.facts; clear X1 X1a X1b; have hB2 := below_trans hB1 hb2))
  go_ret
  exact ⟨by simp, hB2⟩
set_option maxRecDepth 100000 in
set_option maxHeartbeats 4000000 in
theorem subSplits_one (h I J i : Int) (w : World) (hI : 0 ≤ I ∧ I ≤ 18446744073709551615) (hJ : 0 ≤ J ∧ J ≤ 18446744073709551615) (h4 : 0 ≤ i) (h5 : i ≤ 18446744073709551615) (hs : M.subB h I J = true) (hp : M.spl h I J = [(I, J)]) (hu : M.useV h I J = true) :
    Calls Try.prog 6 #[.int .i64 h, .agg #[.int .u64 I, .int .u64 J], .int .u64 i] w fun e w' => e = .returned (.bool true) ∧ Below w.heap.size w w' := by
  have SC := hidq (fun X => split_all h I J X hI.1 hI.2 hJ.1 hJ.2)
  have UC := hidq (fun X => useful_any h I J X hI.1 hI.2 hJ.1 hJ.2)
  have HC := hidq (fun X => has8_any h I J i X hI.1 hI.2 hJ.1 hJ.2 h4 h5)
  rw [M.spA_yes hs, hp, M.subE_yes hs] at SC
  rw [M.subE_yes hs, hu] at UC
  clear hs hp hu
  have SC : Hid (∀ X, Calls Try.prog 26 #[.int .i64 h, .agg #[.int .u64 I, .int .u64 J]] X fun e w' => ∃ ao c, e = .returned (.tuple #[.slice ao 1 c, .int .i64 0]) ∧ Ss w' (.slice ao 1 c) [(I, J)] ∧ Below X.heap.size X w') := SC
  generalize M.shE h I J i = g at *
  generalize M.shV h I J i = v at *
  have HA := hidq (fun o => (Below.refl _ w).alloc (Nat.le_refl w.heap.size) o)
  have X0 := Bi.new w 24 I J
  obtain ⟨X0a, X0b⟩ := X0.facts
  have hB0 : Below w.heap.size w (w.alloc (.cells #[.int .u64 I, .int .u64 J] 24)) := HA.out _
  clear HA
  have T1 := hidq trivial
  have T2 := hidq trivial
  have T3 := hidq trivial
  have T4 := hidq trivial
  have T5 := hidq trivial
  have T6 := hidq trivial
  have T7 := hidq trivial
  go_enter Try.func6, Try.ntmps6
  go_wp2_with (first | (go_at_call 10; clear T1; refine (live8_any _).mono ?_; rintro e w1 ⟨rfl, hb1⟩; have X1 := (X0.below hb1); obtain ⟨X1a, X1b⟩ := X1.facts; clear X0 X0a X0b; have hB1 := below_trans hB0 hb1) | (go_at_call 26; clear T2; refine (SC.out _).mono ?_; rintro e w2 ⟨ao, cap, rfl, hs1, hb2⟩; have X2 := (X1.below hb2); obtain ⟨X2a, X2b⟩ := X2.facts; clear X1 X1a X1b; have P2 := (hs1); have hB2 := below_trans hB1 hb2; obtain ⟨b1, o1, rfl⟩ := Ss.ptr8 hs1 (by decide); obtain ⟨P2a, P2b⟩ := Ss.at0 P2 rfl) | (go_at_call 24; clear T3; refine (UC.out _).mono ?_; rintro e w3 ⟨rfl, hb3⟩; have X3 := (X2.below hb3); obtain ⟨X3a, X3b⟩ := X3.facts; clear X2 X2a X2b; have P3 := (P2.below hb3); clear P2; have hB3 := below_trans hB2 hb3; obtain ⟨P3a, P3b⟩ := Ss.at0 P3 rfl) | (go_at_call 28; clear T4; refine (rsameS_yes [(I, J)] _ _ _ (P3.alloc _) (Ss.oneq _ _ I J _ (by first | rfl | simp) (by omega))).mono ?_; rintro e w4 ⟨rfl, hb4⟩; replace hb4 : Below w3.heap.size w3 w4 := below_trans (below_one (o := (.cells #[.int .u64 I, .int .u64 J] 24)) (Below.refl w3.heap.size w3)) hb4; have X4 := (X3.below hb4); obtain ⟨X4a, X4b⟩ := X4.facts; clear X3 X3a X3b; have P4 := (P3.below hb4); clear P3; have hB4 := below_trans hB3 hb4; obtain ⟨P4a, P4b⟩ := Ss.at0 P4 rfl) | (go_at_call 13; clear T5; refine (HC.out _).mono ?_; rintro e w5 ⟨rfl, hb5⟩; have X5 := (X4.below hb5); obtain ⟨X5a, X5b⟩ := X5.facts; clear X4 X4a X4b; have P5 := (P4.below hb5); clear P4; have hB5 := below_trans hB4 hb5; obtain ⟨P5a, P5b⟩ := Ss.at0 P5 rfl))
  refine wp_loop_rounds 2 ?_
  rw [rounds_succ]
  have X5' := X5.alloc (.cells #[.int .u64 I, .int .u64 J] 24)
  have Z5 := Bi.new w5 24 I J
  clear X5a X5b
  obtain ⟨X5a, X5b⟩ := X5'.facts
  obtain ⟨Z5a, Z5b⟩ := Z5.facts
  have hB5' := below_one (o := (.cells #[.int .u64 I, .int .u64 J] 24)) hB5
  clear X5 hB5
  have X5 := X5'
  have hB5 := hB5'
  clear X5' hB5'
  go_wp2_with (first | (go_at_call 24; clear T6; refine (UC.out _).mono ?_; rintro e w6 ⟨rfl, hb6⟩; have X6 := (X5.below hb6); obtain ⟨X6a, X6b⟩ := X6.facts; clear X5 X5a X5b; have Z6 := (Z5.below hb6); obtain ⟨Z6a, Z6b⟩ := Z6.facts; clear Z5 Z5a Z5b; have hB6 := below_trans hB5 hb6) | (go_at_call 13; clear T7; refine (HC.out _).mono ?_; rintro e w7 ⟨rfl, hb7⟩; have X7 := (X6.below hb7); obtain ⟨X7a, X7b⟩ := X7.facts; clear X6 X6a X6b; have Z7 := (Z6.below hb7); obtain ⟨Z7a, Z7b⟩ := Z7.facts; clear Z6 Z6a Z6b; have hB7 := below_trans hB6 hb7))
  rw [rounds_succ]
  go_wp2
  go_ret
  first | exact ⟨by simp, hB7⟩ | exact ⟨rfl, hB7⟩
set_option maxRecDepth 100000 in
set_option maxHeartbeats 4000000 in
theorem subSplits_zero (h I i : Int) (w : World) (hI : 0 ≤ I ∧ I ≤ 18446744073709551615) (h4 : 0 ≤ i) (h5 : i ≤ 18446744073709551615) (hs : M.subB h I 0 = true) (hp : M.spl h I 0 = [(I, 0)]) (hu : M.useV h I 0 = false) :
    Calls Try.prog 6 #[.int .i64 h, .agg #[.int .u64 I, .int .u64 0], .int .u64 i] w fun e w' => e = .returned (.bool true) ∧ Below w.heap.size w w' := by
  have hJ : (0 : Int) ≤ 0 ∧ (0 : Int) ≤ 18446744073709551615 := by omega
  have SC := hidq (fun X => split_all h I 0 X hI.1 hI.2 hJ.1 hJ.2)
  have UC := hidq (fun X => useful_any h I 0 X hI.1 hI.2 hJ.1 hJ.2)
  have HC := hidq (fun X => has8_any h I 0 i X hI.1 hI.2 hJ.1 hJ.2 h4 h5)
  rw [M.spA_yes hs, hp, M.subE_yes hs] at SC
  rw [M.subE_yes hs, hu] at UC
  clear hs hp hu
  have SC : Hid (∀ X, Calls Try.prog 26 #[.int .i64 h, .agg #[.int .u64 I, .int .u64 0]] X fun e w' => ∃ ao c, e = .returned (.tuple #[.slice ao 1 c, .int .i64 0]) ∧ Ss w' (.slice ao 1 c) [(I, 0)] ∧ Below X.heap.size X w') := SC
  generalize M.shE h I 0 i = g at *
  generalize M.shV h I 0 i = v at *
  have HA := hidq (fun o => (Below.refl _ w).alloc (Nat.le_refl w.heap.size) o)
  have X0 := Bi.new w 24 I 0
  obtain ⟨X0a, X0b⟩ := X0.facts
  have hB0 : Below w.heap.size w (w.alloc (.cells #[.int .u64 I, .int .u64 0] 24)) := HA.out _
  clear HA
  have T1 := hidq trivial
  have T2 := hidq trivial
  have T3 := hidq trivial
  have T4 := hidq trivial
  have T5 := hidq trivial
  have T6 := hidq trivial
  go_enter Try.func6, Try.ntmps6
  go_wp2_with (first | (go_at_call 10; clear T1; refine (live8_any _).mono ?_; rintro e w1 ⟨rfl, hb1⟩; have X1 := (X0.below hb1); obtain ⟨X1a, X1b⟩ := X1.facts; clear X0 X0a X0b; have hB1 := below_trans hB0 hb1) | (go_at_call 26; clear T2; refine (SC.out _).mono ?_; rintro e w2 ⟨ao, cap, rfl, hs1, hb2⟩; have X2 := (X1.below hb2); obtain ⟨X2a, X2b⟩ := X2.facts; clear X1 X1a X1b; have P2 := (hs1); have hB2 := below_trans hB1 hb2; obtain ⟨b1, o1, rfl⟩ := Ss.ptr8 hs1 (by decide); obtain ⟨P2a, P2b⟩ := Ss.at0 P2 rfl) | (go_at_call 24; clear T3; refine (UC.out _).mono ?_; rintro e w3 ⟨rfl, hb3⟩; have X3 := (X2.below hb3); obtain ⟨X3a, X3b⟩ := X3.facts; clear X2 X2a X2b; have P3 := (P2.below hb3); clear P2; have hB3 := below_trans hB2 hb3; obtain ⟨P3a, P3b⟩ := Ss.at0 P3 rfl) | (go_at_call 13; clear T4; refine (HC.out _).mono ?_; rintro e w4 ⟨rfl, hb4⟩; have X4 := (X3.below hb4); obtain ⟨X4a, X4b⟩ := X4.facts; clear X3 X3a X3b; have P4 := (P3.below hb4); clear P3; have hB4 := below_trans hB3 hb4; obtain ⟨P4a, P4b⟩ := Ss.at0 P4 rfl))
  refine wp_loop_rounds 2 ?_
  rw [rounds_succ]
  have X4' := X4.alloc (.cells #[.int .u64 I, .int .u64 0] 24)
  have Z4 := Bi.new w4 24 I 0
  clear X4a X4b
  obtain ⟨X4a, X4b⟩ := X4'.facts
  obtain ⟨Z4a, Z4b⟩ := Z4.facts
  have hB4' := below_one (o := (.cells #[.int .u64 I, .int .u64 0] 24)) hB4
  clear X4 hB4
  have X4 := X4'
  have hB4 := hB4'
  clear X4' hB4'
  go_wp2_with (first | (go_at_call 24; clear T5; refine (UC.out _).mono ?_; rintro e w5 ⟨rfl, hb5⟩; have X5 := (X4.below hb5); obtain ⟨X5a, X5b⟩ := X5.facts; clear X4 X4a X4b; have Z5 := (Z4.below hb5); obtain ⟨Z5a, Z5b⟩ := Z5.facts; clear Z4 Z4a Z4b; have hB5 := below_trans hB4 hb5) | (go_at_call 13; clear T6; refine (HC.out _).mono ?_; rintro e w6 ⟨rfl, hb6⟩; have X6 := (X5.below hb6); obtain ⟨X6a, X6b⟩ := X6.facts; clear X5 X5a X5b; have Z6 := (Z5.below hb6); obtain ⟨Z6a, Z6b⟩ := Z6.facts; clear Z5 Z5a Z5b; have hB6 := below_trans hB5 hb6))
  rw [rounds_succ]
  go_wp2
  go_ret
  first | exact ⟨by simp, hB6⟩ | exact ⟨rfl, hB6⟩
set_option maxRecDepth 100000 in
set_option maxHeartbeats 4000000 in
theorem subSplits_two (h I J i : Int) (w : World) (hI : 0 ≤ I ∧ I ≤ 18446744073709551615) (hJ : 0 ≤ J ∧ J ≤ 18446744073709551615) (h4 : 0 ≤ i) (h5 : i ≤ 18446744073709551615) (hs : M.subB h I J = true) (h0 : J ≠ 0) (hc : M.cutB h I J = true) :
    Calls Try.prog 6 #[.int .i64 h, .agg #[.int .u64 I, .int .u64 J], .int .u64 i] w fun e w' => e = .returned (.bool true) ∧ Below w.heap.size w w' := by
  have hu : M.useV h I J = false := by unfold M.useV M.useB; rw [if_neg h0, hc]; simp
  have hp : M.spl h I J = [(I, M.cutV h I J), (M.cutV h I J, J)] := by unfold M.spl; rw [if_neg h0, hc]; rfl
  obtain ⟨-, -, -, c4, -, c6, c7, c8⟩ := M.cut_of hs h0 hc
  obtain ⟨u1, u2⟩ := M.cut_use hs h0 hc
  obtain ⟨m1, m2, -⟩ := M.cut_parts hs h0 hc
  have k1 := M.ok_lt c4
  have k2 := (M.ok_of c4).2.2.1
  have hq : 0 ≤ M.cutV h I J ∧ M.cutV h I J ≤ 18446744073709551615 := by omega
  have hu1 : M.useV h I (M.cutV h I J) = true := by unfold M.useV; rw [c6, u1]; rfl
  have hu2 : M.useV h (M.cutV h I J) J = true := by unfold M.useV; rw [c7, u2]; rfl
  have t1 := (M.to_yes c6 c7).1
  have t2 := (M.to_yes c6 c7).2
  rw [m1] at t2
  have HE : M.shE h I (M.cutV h I J) i = M.shE h I J i ∧ M.shE h (M.cutV h I J) J i = M.shE h I J i ∧ M.shV h I J i = (M.shV h I (M.cutV h I J) i || M.shV h (M.cutV h I J) J i) := by
    by_cases hl : M.leafE h i = 0
    · rw [(M.sh_yes hs hl).1, (M.sh_yes hs hl).2, (M.sh_yes c6 hl).1, (M.sh_yes c6 hl).2, (M.sh_yes c7 hl).1, (M.sh_yes c7 hl).2]
      exact ⟨rfl, rfl, m2 i⟩
    · have a := M.sh_no (h := h) (I := I) (J := J) (i := i) (fun hx => hl hx.2)
      have b := M.sh_no (h := h) (I := I) (J := M.cutV h I J) (i := i) (fun hx => hl hx.2)
      have c := M.sh_no (h := h) (I := M.cutV h I J) (J := J) (i := i) (fun hx => hl hx.2)
      rw [a.1, a.2, b.1, b.2, c.1, c.2]
      exact ⟨rfl, rfl, rfl⟩
  obtain ⟨e1, e2, e3⟩ := HE
  have SC := hidq (fun X => split_all h I J X hI.1 hI.2 hJ.1 hJ.2)
  have UC := hidq (fun X => useful_any h I J X hI.1 hI.2 hJ.1 hJ.2)
  have HC := hidq (fun X => has8_any h I J i X hI.1 hI.2 hJ.1 hJ.2 h4 h5)
  have UC1 := hidq (fun X => useful_any h I (M.cutV h I J) X hI.1 hI.2 hq.1 hq.2)
  have HC1 := hidq (fun X => has8_any h I (M.cutV h I J) i X hI.1 hI.2 hq.1 hq.2 h4 h5)
  have UC2 := hidq (fun X => useful_any h (M.cutV h I J) J X hq.1 hq.2 hJ.1 hJ.2)
  have HC2 := hidq (fun X => has8_any h (M.cutV h I J) J i X hq.1 hq.2 hJ.1 hJ.2 h4 h5)
  have TC := hidq (fun X => touch_any h I (M.cutV h I J) (M.cutV h I J) J X hI hq hq hJ)
  rw [M.spA_yes hs, hp, M.subE_yes hs] at SC
  rw [M.subE_yes hs, hu] at UC
  rw [M.subE_yes c6, hu1] at UC1
  rw [M.subE_yes c7, hu2] at UC2
  rw [e1] at HC1
  rw [e2] at HC2
  rw [e3] at HC
  rw [t1, t2] at TC
  clear hs hp hu c4 c6 c7 c8 u1 u2 m1 m2 hu1 hu2 t1 t2 e1 e2 e3 hc
  generalize M.cutV h I J = q at *
  have SC : Hid (∀ X, Calls Try.prog 26 #[.int .i64 h, .agg #[.int .u64 I, .int .u64 J]] X fun e w' => ∃ ao c, e = .returned (.tuple #[.slice ao 2 c, .int .i64 0]) ∧ Ss w' (.slice ao 2 c) [(I, q), (q, J)] ∧ Below X.heap.size X w') := SC
  have hJ0 : (J != 0) = true := by rw [bne_iff_ne]; exact h0
  generalize M.shE h I J i = g at *
  generalize M.shV h I q i = v1 at *
  generalize M.shV h q J i = v2 at *
  have HA := hidq (fun o => (Below.refl _ w).alloc (Nat.le_refl w.heap.size) o)
  have X0 := Bi.new w 24 I J
  obtain ⟨X0a, X0b⟩ := X0.facts
  have hB0 : Below w.heap.size w (w.alloc (.cells #[.int .u64 I, .int .u64 J] 24)) := HA.out _
  clear HA
  have T1 := hidq trivial
  have T2 := hidq trivial
  have T3 := hidq trivial
  have T4 := hidq trivial
  have T5 := hidq trivial
  have T6 := hidq trivial
  have T7 := hidq trivial
  have T8 := hidq trivial
  go_enter Try.func6, Try.ntmps6
  go_wp2_with (first | (go_at_call 10; clear T1; refine (live8_any _).mono ?_; rintro e w1 ⟨rfl, hb1⟩; have X1 := (X0.below hb1); obtain ⟨X1a, X1b⟩ := X1.facts; clear X0 X0a X0b; have hB1 := below_trans hB0 hb1) | (go_at_call 26; clear T2; refine (SC.out _).mono ?_; rintro e w2 ⟨ao, cap, rfl, hs1, hb2⟩; have X2 := (X1.below hb2); obtain ⟨X2a, X2b⟩ := X2.facts; clear X1 X1a X1b; have P2 := (hs1); have hB2 := below_trans hB1 hb2; obtain ⟨b1, o1, rfl⟩ := Ss.ptr8 hs1 (by decide); obtain ⟨P2a, P2b⟩ := Ss.at0 P2 rfl) | (go_at_call 24; clear T3; refine (UC.out _).mono ?_; rintro e w3 ⟨rfl, hb3⟩; have X3 := (X2.below hb3); obtain ⟨X3a, X3b⟩ := X3.facts; clear X2 X2a X2b; have P3 := (P2.below hb3); clear P2; have hB3 := below_trans hB2 hb3; obtain ⟨P3a, P3b⟩ := Ss.at0 P3 rfl) | (go_at_call 13; clear T4; refine (HC.out _).mono ?_; rintro e w4 ⟨rfl, hb4⟩; have X4 := (X3.below hb4); obtain ⟨X4a, X4b⟩ := X4.facts; clear X3 X3a X3b; have P4 := (P3.below hb4); clear P3; have hB4 := below_trans hB3 hb4; obtain ⟨P4a, P4b⟩ := Ss.at0 P4 rfl))
  refine wp_loop_rounds 3 ?_
  rw [rounds_succ]
  have X4' := X4.alloc (.cells #[.int .u64 I, .int .u64 q] 24)
  have Z4 := Bi.new w4 24 I q
  clear X4a X4b
  obtain ⟨X4a, X4b⟩ := X4'.facts
  obtain ⟨Z4a, Z4b⟩ := Z4.facts
  have hB4' := below_one (o := (.cells #[.int .u64 I, .int .u64 q] 24)) hB4
  clear X4 hB4
  have X4 := X4'
  have hB4 := hB4'
  clear X4' hB4'
  have P4' := P4.alloc (.cells #[.int .u64 I, .int .u64 q] 24)
  go_wp2_with (first | (go_at_call 24; clear T5; refine (UC1.out _).mono ?_; rintro e w5 ⟨rfl, hb5⟩; have X5 := (X4.below hb5); obtain ⟨X5a, X5b⟩ := X5.facts; clear X4 X4a X4b; have Z5 := (Z4.below hb5); obtain ⟨Z5a, Z5b⟩ := Z5.facts; clear Z4 Z4a Z4b; have hB5 := below_trans hB4 hb5; have P5 := P4'.below hb5) | (go_at_call 13; clear T6; refine (HC1.out _).mono ?_; rintro e w6 ⟨rfl, hb6⟩; have X6 := (X5.below hb6); obtain ⟨X6a, X6b⟩ := X6.facts; clear X5 X5a X5b; have Z6 := (Z5.below hb6); obtain ⟨Z6a, Z6b⟩ := Z6.facts; clear Z5 Z5a Z5b; have hB6 := below_trans hB5 hb6; have P6 := P5.below hb6; obtain ⟨P6c, P6d⟩ := Ss.at1 P6 rfl))
  rw [rounds_succ]
  have X6' := X6.alloc (.cells #[.int .u64 q, .int .u64 J] 24)
  have Z6 := Bi.new w6 24 q J
  clear X6a X6b
  obtain ⟨X6a, X6b⟩ := X6'.facts
  obtain ⟨Z6a, Z6b⟩ := Z6.facts
  have hB6' := below_one (o := (.cells #[.int .u64 q, .int .u64 J] 24)) hB6
  clear X6 hB6
  have X6 := X6'
  have hB6 := hB6'
  clear X6' hB6'
  have P6' := P6.alloc (.cells #[.int .u64 q, .int .u64 J] 24)
  go_wp2_with (first | (go_at_call 24; clear T7; refine (UC2.out _).mono ?_; rintro e w7 ⟨rfl, hb7⟩; have X7 := (X6.below hb7); obtain ⟨X7a, X7b⟩ := X7.facts; clear X6 X6a X6b; have Z7 := (Z6.below hb7); obtain ⟨Z7a, Z7b⟩ := Z7.facts; clear Z6 Z6a Z6b; have hB7 := below_trans hB6 hb7; have P7 := P6'.below hb7) | (go_at_call 13; clear T8; refine (HC2.out _).mono ?_; rintro e w8 ⟨rfl, hb8⟩; have X8 := (X7.below hb8); obtain ⟨X8a, X8b⟩ := X8.facts; clear X7 X7a X7b; have Z8 := (Z7.below hb8); obtain ⟨Z8a, Z8b⟩ := Z8.facts; clear Z7 Z7a Z7b; have hB8 := below_trans hB7 hb8; have P8 := P7.below hb8; obtain ⟨P8a, P8b⟩ := Ss.at0 P8 rfl))
  all_goals (go_region_held3 (fun X => X.cell? ⟨b1, o1, none⟩ = some (.int .u64 I) ∧ X.cell? ⟨b1, o1 + 1, none⟩ = some (.int .u64 q) ∧ X.cell? ⟨w6.heap.size, 0, none⟩ = some (.int .u64 q) ∧ X.cell? ⟨w6.heap.size, 1, none⟩ = some (.int .u64 J)) (go_keep)
    (first | (go_at_call 15; refine (TC.out _).mono ?_; rintro e wt ⟨rfl, hbt⟩; have hdt : Below w8.heap.size w8 wt := below_trans ((Below.refl w8.heap.size w8).drew) hbt; have Pt := P8.below hdt; obtain ⟨Pta, Ptb⟩ := Ss.at0 Pt rfl; have Zt := Z8.below hdt; obtain ⟨Zta, Ztb⟩ := Zt.facts; have hBt := below_trans hB8 hdt)))
  all_goals go_wp2
  all_goals rw [rounds_succ]
  all_goals go_wp2
  all_goals go_ret
  all_goals first | exact ⟨by simp, hBt⟩ | exact ⟨rfl, hBt⟩
theorem subSplits_walk (h : Int) (s : Int × Int) (i : Int) (w : World) (_h0 : -9223372036854775808 ≤ h) (_h1 : h ≤ 9223372036854775807) (hs : M.fitS s) (h4 : 0 ≤ i) (h5 : i ≤ 18446744073709551615) :
    Calls Try.prog 6 #[.int .i64 h, .agg #[.int .u64 s.1, .int .u64 s.2], .int .u64 i] w fun e w' => e = .returned (.bool true) ∧ Below w.heap.size w w' := by
  obtain ⟨I, J⟩ := s
  obtain ⟨hI, hJ⟩ := hs
  dsimp only at hI hJ ⊢
  cases hb : M.subB h I J
  · exact subSplits_no h I J i w hI hJ hb
  · by_cases h0 : J = 0
    · subst h0
      have hp : M.spl h I 0 = [(I, 0)] := by unfold M.spl; rw [if_pos rfl]
      cases hu : M.useV h I 0
      · exact subSplits_zero h I i w hI h4 h5 hb hp hu
      · exact subSplits_one h I 0 i w hI hJ h4 h5 hb hp hu
    · cases hc : M.cutB h I J
      · exact subSplits_one h I J i w hI hJ h4 h5 hb (by unfold M.spl; rw [if_neg h0, hc]; rfl) (by unfold M.useV M.useB; rw [hb, if_neg h0, hc]; rfl)
      · exact subSplits_two h I J i w hI hJ h4 h5 hb h0 hc
end Go.Proofs.Ytnfobglaeaalfaa
