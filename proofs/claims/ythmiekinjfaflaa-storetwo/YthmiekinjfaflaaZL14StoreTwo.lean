/-
  The law StoreTwo returns true at every input: of two leaves a pair that both have has both in it; one without a J has the other leaf just if it is that one's, too. Conditions: the numbers fit their kinds.
-/
import Derived.Test.YthmiekinjfaflaaZL14StoreMany
import Derived.Test.YthmiekinjfaflaaZSQ2
import Derived.Test.YthmiekinjfaflaaZSt2
namespace Go.Proofs.Ythmiekinjfaflaa
open Go.RowKit
theorem sfind_mem (s : Int × Int) : ∀ X : List (Int × Int), s ∈ X → ∃ p, sfind s (X.map fun x => (x, (1 : Int))) = some (p, 1)
  | [], h => by simp at h
  | x :: t, h => by
    rw [List.map_cons, sfind_cons]
    by_cases hx : s = x
    · exact ⟨0, by rw [if_pos hx]⟩
    · obtain ⟨p, hp⟩ := sfind_mem s t ((List.mem_cons.1 h).resolve_left hx)
      exact ⟨p + 1, by rw [if_neg hx, hp]; rfl⟩
set_option maxRecDepth 100000 in
set_option maxHeartbeats 4000000 in
theorem storeTwo_far (h k i j : Int) (w : World) (_ : 0 ≤ i) (_ : i ≤ 18446744073709551615) (_ : 0 ≤ j) (_ : j ≤ 18446744073709551615) (hh : 16 < h) (hh2 : h ≤ 32) : Calls Try.prog 7 #[.int .i64 h, .int .i64 k, .int .u64 i, .int .u64 j] w fun e w' => e = .returned (.bool true) ∧ Below w.heap.size w w' := by
  have hx : ¬ h ≤ 16 := by omega
  go_enter Try.func7, Try.ntmps7
  go_wp2_with (first | (go_at_call 8; refine (live14_any _).mono ?_; rintro e w1 ⟨rfl, hb1⟩; have hB1 := hidq hb1; clear hb1))
  go_ret
  exact ⟨rfl, hB1.out⟩
set_option maxRecDepth 100000 in
set_option maxHeartbeats 4000000 in
theorem storeTwo_no_low (h k i j : Int) (w : World) (h0 : 0 ≤ i) (h1 : i ≤ 18446744073709551615) (j0 : 0 ≤ j) (j1 : j ≤ 18446744073709551615) (hh : h ≤ 16) (hE : ¬ (M.prsE h k i = 0 ∧ M.prsE h k j = 0)) : Calls Try.prog 7 #[.int .i64 h, .int .i64 k, .int .u64 i, .int .u64 j] w fun e w' => e = .returned (.bool true) ∧ Below w.heap.size w w' := by
  have hx : ¬ 16 < h := by omega
  have SA := hidq (fun W => spairs_any h k i W h0 h1)
  have SB := hidq (fun W => spairs_any h k j W j0 j1)
  generalize M.prsL h k i = A at *
  generalize M.prsL h k j = B at *
  generalize M.prsE h k i = E at *
  generalize M.prsE h k j = F at *
  have T1 := hidq trivial
  by_cases he : E = 0
  · have hf : ¬ F = 0 := fun hf => hE ⟨he, hf⟩
    have hfb : (F == 0) = false := by rw [beq_eq_false_iff_ne]; exact hf
    subst he
    clear hE
    go_enter Try.func7, Try.ntmps7
    go_wp2_with (first | (go_at_call 8; refine (live14_any _).mono ?_; rintro e w1 ⟨rfl, hb1⟩; have hB1 := hidq hb1; clear hb1) | (go_at_call 9; clear T1; refine (SA.out _).mono ?_; rintro e w2 ⟨x, rfl, A2, hb2⟩; have hB2 := hidq (below_trans hB1.out hb2); obtain ⟨aA, cA, rfl, -⟩ := A2.form; clear A2 hb2) | (go_at_call 9; refine (SB.out _).mono ?_; rintro e w3 ⟨x, rfl, A3, hb3⟩; have hB3 := hidq (below_trans hB2.out hb3); obtain ⟨aB, cB, rfl, -⟩ := A3.form; clear A3 hb3))
    go_ret
    exact ⟨rfl, hB3.out⟩
  · have heb : (E == 0) = false := by rw [beq_eq_false_iff_ne]; exact he
    clear hE
    go_enter Try.func7, Try.ntmps7
    go_wp2_with (first | (go_at_call 8; refine (live14_any _).mono ?_; rintro e w1 ⟨rfl, hb1⟩; have hB1 := hidq hb1; clear hb1) | (go_at_call 9; clear T1; refine (SA.out _).mono ?_; rintro e w2 ⟨x, rfl, A2, hb2⟩; have hB2 := hidq (below_trans hB1.out hb2); obtain ⟨aA, cA, rfl, -⟩ := A2.form; clear A2 hb2) | (go_at_call 9; refine (SB.out _).mono ?_; rintro e w3 ⟨x, rfl, A3, hb3⟩; have hB3 := hidq (below_trans hB2.out hb3); obtain ⟨aB, cB, rfl, -⟩ := A3.form; clear A3 hb3))
    go_ret
    exact ⟨rfl, hB3.out⟩
set_option maxRecDepth 100000 in
set_option maxHeartbeats 4000000 in
theorem storeTwo_no_high (h k i j : Int) (w : World) (h0 : 0 ≤ i) (h1 : i ≤ 18446744073709551615) (j0 : 0 ≤ j) (j1 : j ≤ 18446744073709551615) (hh : 32 < h) (hE : ¬ (M.prsE h k i = 0 ∧ M.prsE h k j = 0)) : Calls Try.prog 7 #[.int .i64 h, .int .i64 k, .int .u64 i, .int .u64 j] w fun e w' => e = .returned (.bool true) ∧ Below w.heap.size w w' := by
  have hx : ¬ h ≤ 32 := by omega
  have hx2 : 16 < h := by omega
  have SA := hidq (fun W => spairs_any h k i W h0 h1)
  have SB := hidq (fun W => spairs_any h k j W j0 j1)
  generalize M.prsL h k i = A at *
  generalize M.prsL h k j = B at *
  generalize M.prsE h k i = E at *
  generalize M.prsE h k j = F at *
  have T1 := hidq trivial
  by_cases he : E = 0
  · have hf : ¬ F = 0 := fun hf => hE ⟨he, hf⟩
    have hfb : (F == 0) = false := by rw [beq_eq_false_iff_ne]; exact hf
    subst he
    clear hE
    go_enter Try.func7, Try.ntmps7
    go_wp2_with (first | (go_at_call 8; refine (live14_any _).mono ?_; rintro e w1 ⟨rfl, hb1⟩; have hB1 := hidq hb1; clear hb1) | (go_at_call 9; clear T1; refine (SA.out _).mono ?_; rintro e w2 ⟨x, rfl, A2, hb2⟩; have hB2 := hidq (below_trans hB1.out hb2); obtain ⟨aA, cA, rfl, -⟩ := A2.form; clear A2 hb2) | (go_at_call 9; refine (SB.out _).mono ?_; rintro e w3 ⟨x, rfl, A3, hb3⟩; have hB3 := hidq (below_trans hB2.out hb3); obtain ⟨aB, cB, rfl, -⟩ := A3.form; clear A3 hb3))
    go_ret
    exact ⟨rfl, hB3.out⟩
  · have heb : (E == 0) = false := by rw [beq_eq_false_iff_ne]; exact he
    clear hE
    go_enter Try.func7, Try.ntmps7
    go_wp2_with (first | (go_at_call 8; refine (live14_any _).mono ?_; rintro e w1 ⟨rfl, hb1⟩; have hB1 := hidq hb1; clear hb1) | (go_at_call 9; clear T1; refine (SA.out _).mono ?_; rintro e w2 ⟨x, rfl, A2, hb2⟩; have hB2 := hidq (below_trans hB1.out hb2); obtain ⟨aA, cA, rfl, -⟩ := A2.form; clear A2 hb2) | (go_at_call 9; refine (SB.out _).mono ?_; rintro e w3 ⟨x, rfl, A3, hb3⟩; have hB3 := hidq (below_trans hB2.out hb3); obtain ⟨aB, cB, rfl, -⟩ := A3.form; clear A3 hb3))
    go_ret
    exact ⟨rfl, hB3.out⟩
set_option maxRecDepth 100000 in
set_option maxHeartbeats 8000000 in
theorem storeTwo_yes (h k i j : Int) (w : World) (h0 : 0 ≤ i) (h1 : i ≤ 18446744073709551615) (j0 : 0 ≤ j) (j1 : j ≤ 18446744073709551615) (hh : h ≤ 16) (hE : M.prsE h k i = 0) (hF : M.prsE h k j = 0) : Calls Try.prog 7 #[.int .i64 h, .int .i64 k, .int .u64 i, .int .u64 j] w fun e w' => e = .returned (.bool true) ∧ Below w.heap.size w w' := by
  have hx : ¬ 16 < h := by omega
  have SA := hidq (fun W => spairs_any h k i W h0 h1)
  have SB := hidq (fun W => spairs_any h k j W j0 j1)
  rw [hE] at SA
  rw [hF] at SB
  obtain ⟨q1, -⟩ := M.prs_length h0 hE
  obtain ⟨p1, -⟩ := M.prs_length j0 hF
  obtain ⟨-, hlj, -⟩ := M.prs_yes hF
  have hlen : (M.prsL h k j).length = (M.prsL h k i).length := by omega
  have HSa := hidq (fun (x : Int × Int) (hx : x ∈ M.prsL h k i) => M.sub_fit14 (M.prs_sub h0 hE hx))
  have HSb := hidq (fun (x : Int × Int) (hx : x ∈ M.prsL h k j) => M.sub_fit14 (M.prs_sub j0 hF hx))
  have HNd := hidq (M.prs_nodup (h := h) (k := k) (i := j) j0)
  have HC1 := hidq (fun y d W a b c e => has8_any h y d j W a b c e j0 j1)
  have HH := hidq (fun (x : Int × Int) (hx : x ∈ M.prsL h k i) => show M.shE h x.1 x.2 j = 0 ∧ (x ∈ M.prsL h k j → M.shV h x.1 x.2 j = true) ∧ (¬ x ∈ M.prsL h k j → x.2 = 0 → M.shV h x.1 x.2 j = false) by
    refine ⟨(M.prs_has h0 j0 hE hlj hx).1, fun hm => (M.prs_in j0 hF hm).2.1, fun hn hJ => ?_⟩
    have hmy := (M.prs_in h0 hE hx).2.2.2
    obtain ⟨I, J⟩ := x
    dsimp only at hJ hmy hn ⊢
    subst hJ
    rw [Bool.eq_false_iff]
    exact fun hv => hn ((M.prs_zero j0 hF hmy).2 hv))
  generalize M.prsL h k i = A at *
  generalize M.prsL h k j = B at *
  generalize hN : A.length = N at *
  have HN := hidq hN
  have HM := hidq hlen
  clear hE hF q1 p1 hlj hN hlen
  have hmk := run_makeMapSub0
  have T1 := hidq trivial
  go_enter Try.func7, Try.ntmps7
  go_wp2_with (first | (go_at_call 8; refine (live14_any _).mono ?_; rintro e w1 ⟨rfl, hb1⟩; have hB1 := hidq hb1; clear hb1) | (go_at_call 9; clear T1; refine (SA.out _).mono ?_; rintro e w2 ⟨x, rfl, A2, hb2⟩; have hB2 := hidq (below_trans hB1.out hb2); obtain ⟨aA, cA, e2, kA, kM, vA⟩ := A2.form; have HkA := hidq (Nat.le_trans kA kM); rw [HN.out] at e2 kA; subst e2; have AA2 := hidq A2; have VA := hidq vA; clear A2 hb2 vA kM) | (go_at_call 9; refine (SB.out _).mono ?_; rintro e w3 ⟨x, rfl, A3, hb3⟩; have hB3 := hidq (below_trans hB2.out hb3); have AA3 := hidq (AA2.out.below hb3); obtain ⟨aB, cB, e3, kB, kM, vB⟩ := A3.form; rw [HM.out] at e3 kB; subst e3; have BB3 := hidq A3; have VB := hidq vB; clear A3 hb3 vB kM))
  go_loopw [53] (fun a wr => ∃ (p : Nat), p ≤ N ∧ a = .int .i64 p ∧ MpS wr w3.heap.size ((B.take p).map fun x => (x, 1)) ∧ Below w3.heap.size w3 wr) (fun a _ => N - (intOf a).toNat)
  case atStart => exact ⟨0, by omega, rfl, MpS.new _, below_one (Below.refl _ _)⟩
  case round =>
    obtain ⟨p, hp, rfl, hm, hb⟩ := hrel
    obtain ⟨wz, hwz⟩ : ∃ wz, wz = wr := ⟨_, rfl⟩
    subst hwz
    have BX := hidq hb
    have HMP := hidq hm
    clear hm
    have hN8 := HkA.out
    rw [HN.out] at hN8
    unfold maxLen at hN8
    by_cases hpn : p < N
    · have hpi : (p : Int) < N := by omega
      obtain ⟨bF, oF, rfl⟩ := VB.out (by omega)
      obtain ⟨s, hsj⟩ : ∃ s, B[p]? = some s := ⟨_, List.getElem?_eq_getElem (by rw [HM.out]; exact hpn)⟩
      obtain ⟨x1, x2⟩ := Ss.at (BB3.out.below hb) hsj
      have hmm := List.mem_of_getElem? hsj
      have hft := HSb.out s hmm
      have hnew := sfind_ones s (B.take p) (nodup_take HNd.out hsj)
      have htk : (B.take (p + 1)).map (fun x => (x, (1 : Int))) = (B.take p).map (fun x => (x, 1)) ++ [(s, 1)] := by rw [List.take_add_one, hsj]; simp
      have HTk := hidq htk
      obtain ⟨y, d⟩ := s
      dsimp only at x1 x2 hft
      have HFit := hidq (show M.fitSu (y, d) from hft)
      generalize (B.take p).map (fun x => (x, (1 : Int))) = K at *
      have HNew := hidq hnew
      have SX := hidq (Bi.new wz 35 y d)
      obtain ⟨SXa, SXb⟩ := SX.out.facts
      have BY := hidq (below_one (o := (.cells #[.int .u64 y, .int .u64 d] 35)) BX.out)
      clear hsj hmm hb hnew htk hft
      go_wp2_with (first | (at_mapUpdate; refine wpList_storeSub _ rfl _ _ _ rfl w3.heap.size K (y, d) 1 rfl rfl rfl HFit.out (HMP.out.alloc (.cells #[.int .u64 y, .int .u64 d] 35)) HNew.out ?_; intro w5 hm5 hg5))
      have B5 := hidq (BY.out.grown hg5 BY.out.size (fun q hq => by cases hq; exact Nat.le_refl _))
      have M5 := hidq (show MpS w5 w3.heap.size ((B.take (p + 1)).map fun x => (x, 1)) by rw [HTk.out]; exact hm5)
      clear hm5 hg5
      go_roundw
      case rel => exact ⟨p + 1, by omega, by go_num, M5.out, B5.out⟩
      case measure => simp [intOf]; omega
    · obtain rfl : p = N := by omega
      have hpi : ¬ (p : Int) < p := by omega
      have HMB := hidq (show MpS wz w3.heap.size (B.map fun x => (x, 1)) by have := HMP.out; rwa [List.take_of_length_le (by rw [HM.out]; exact Nat.le_refl _)] at this)
      obtain ⟨wy, hwy⟩ : ∃ wy, wy = wz := ⟨_, rfl⟩
      subst hwy
      have BY := hidq hb
      clear hb HMP BX
      go_wp2
      go_loopw [62] (fun a wr => ∃ (q : Nat), q ≤ p ∧ a = .int .i64 q ∧ Below wy.heap.size wy wr) (fun a _ => p - (intOf a).toNat)
      case atStart => exact ⟨0, by omega, rfl, Below.refl _ _⟩
      case round =>
        obtain ⟨q, hq, rfl, hb⟩ := hrel
        obtain ⟨wx, hwx⟩ : ∃ wx, wx = wr := ⟨_, rfl⟩
        subst hwx
        have BX := hidq hb
        have HMP := hidq (HMB.out.below hb)
        by_cases hqn : q < p
        · have hqi : (q : Int) < p := by omega
          obtain ⟨bF, oF, rfl⟩ := VA.out (by omega)
          obtain ⟨s, hsj⟩ : ∃ s, A[q]? = some s := ⟨_, List.getElem?_eq_getElem (by rw [HN.out]; exact hqn)⟩
          obtain ⟨x1, x2⟩ := Ss.at ((AA3.out.below BY.out).below hb) hsj
          have hmm := List.mem_of_getElem? hsj
          have hft := HSa.out s hmm
          obtain ⟨r1, r2, r3⟩ := HH.out s hmm
          obtain ⟨y, d⟩ := s
          dsimp only at x1 x2 hft r1 r2 r3
          obtain ⟨b1, b2, b3, b4⟩ := hft
          have HFit := hidq (show M.fitSu (y, d) from ⟨b1, b2, b3, b4⟩)
          have HC := hidq (fun W => HC1.out y d W b1 b2 b3 b4)
          rw [r1] at HC
          generalize M.shV h y d j = sV at *
          have SX := hidq (Bi.new wx 35 y d)
          obtain ⟨SXa, SXb⟩ := SX.out.facts
          clear hsj hmm hb b1 b2 b3 b4 r1
          by_cases hin : ((y, d) : Int × Int) ∈ B
          · have r4 := r2 hin
            obtain ⟨pl, hpl⟩ := sfind_mem (y, d) B hin
            have HL := hidq (fun W (hm : MpS W w3.heap.size (B.map fun x => (x, 1))) => show (Instr.lookup 33 (.map (some w3.heap.size)) (.agg #[.int .u64 y, .int .u64 d]) false).run Try.prog W = .ok (.int .i64 1) W by have := run_lookSub1 (y, d) HFit.out hm; rw [hpl] at this; exact this)
            subst r4
            clear r2 r3 hin hpl
            by_cases hJ : d = 0
            · subst hJ
              go_wp2_with (first | (go_at_call 16; refine (HC.out _).mono ?_; rintro e w5 ⟨rfl, hb5⟩; have Z5 := hidq (SX.out.below hb5); obtain ⟨z5a, z5b⟩ := Z5.out.facts; have M5 := hidq ((HMP.out.alloc (.cells #[.int .u64 y, .int .u64 0] 35)).below hb5); have B5 := hidq (below_trans (below_one (o := (.cells #[.int .u64 y, .int .u64 0] 35)) BX.out) hb5); have hlook := HL.out _ M5.out; clear hb5))
              go_roundw
              case rel => exact ⟨q + 1, by omega, by go_num, B5.out⟩
              case measure => simp [intOf]; omega
            · have hJb : (d == 0) = false := by rw [beq_eq_false_iff_ne]; exact hJ
              go_wp2_with (first | (go_at_call 16; refine (HC.out _).mono ?_; rintro e w5 ⟨rfl, hb5⟩; have Z5 := hidq (SX.out.below hb5); obtain ⟨z5a, z5b⟩ := Z5.out.facts; have M5 := hidq ((HMP.out.alloc (.cells #[.int .u64 y, .int .u64 d] 35)).below hb5); have B5 := hidq (below_trans (below_one (o := (.cells #[.int .u64 y, .int .u64 d] 35)) BX.out) hb5); have hlook := HL.out _ M5.out; clear hb5))
              go_roundw
              case rel => exact ⟨q + 1, by omega, by go_num, B5.out⟩
              case measure => simp [intOf]; omega
          · have hno := sfind_ones (y, d) B hin
            have HL := hidq (fun W (hm : MpS W w3.heap.size (B.map fun x => (x, 1))) => show (Instr.lookup 33 (.map (some w3.heap.size)) (.agg #[.int .u64 y, .int .u64 d]) false).run Try.prog W = .ok (.int .i64 0) W by have := run_lookSub1 (y, d) HFit.out hm; rw [hno] at this; exact this)
            by_cases hJ : d = 0
            · have r4 := r3 hin hJ
              subst r4
              subst hJ
              clear r2 r3 hin hno
              go_wp2_with (first | (go_at_call 16; refine (HC.out _).mono ?_; rintro e w5 ⟨rfl, hb5⟩; have Z5 := hidq (SX.out.below hb5); obtain ⟨z5a, z5b⟩ := Z5.out.facts; have M5 := hidq ((HMP.out.alloc (.cells #[.int .u64 y, .int .u64 0] 35)).below hb5); have B5 := hidq (below_trans (below_one (o := (.cells #[.int .u64 y, .int .u64 0] 35)) BX.out) hb5); have hlook := HL.out _ M5.out; clear hb5))
              go_roundw
              case rel => exact ⟨q + 1, by omega, by go_num, B5.out⟩
              case measure => simp [intOf]; omega
            · have hJb : (d == 0) = false := by rw [beq_eq_false_iff_ne]; exact hJ
              clear r2 r3 hin hno
              go_wp2_with (first | (go_at_call 16; refine (HC.out _).mono ?_; rintro e w5 ⟨rfl, hb5⟩; have Z5 := hidq (SX.out.below hb5); obtain ⟨z5a, z5b⟩ := Z5.out.facts; have M5 := hidq ((HMP.out.alloc (.cells #[.int .u64 y, .int .u64 d] 35)).below hb5); have B5 := hidq (below_trans (below_one (o := (.cells #[.int .u64 y, .int .u64 d] 35)) BX.out) hb5); have hlook := HL.out _ M5.out; clear hb5))
              go_roundw
              case rel => exact ⟨q + 1, by omega, by go_num, B5.out⟩
              case measure => simp [intOf]; omega
        · obtain rfl : q = p := by omega
          have hqi : ¬ (q : Int) < q := by omega
          clear hb
          go_wp2
          go_ret
          exact ⟨rfl, below_trans hB3.out (below_trans BY.out BX.out)⟩
set_option maxRecDepth 100000 in
theorem storeTwo_walk (h k i j : Int) (w : World) (_ : -9223372036854775808 ≤ h) (_ : h ≤ 9223372036854775807) (_ : -9223372036854775808 ≤ k) (_ : k ≤ 9223372036854775807) (h0 : 0 ≤ i) (h1 : i ≤ 18446744073709551615) (j0 : 0 ≤ j) (j1 : j ≤ 18446744073709551615) : Calls Try.prog 7 #[.int .i64 h, .int .i64 k, .int .u64 i, .int .u64 j] w fun e w' => e = .returned (.bool true) ∧ Below w.heap.size w w' := by
  by_cases hh : h ≤ 16
  · by_cases hE : M.prsE h k i = 0 ∧ M.prsE h k j = 0
    · exact storeTwo_yes h k i j w h0 h1 j0 j1 hh hE.1 hE.2
    · exact storeTwo_no_low h k i j w h0 h1 j0 j1 hh hE
  · by_cases h2 : h ≤ 32
    · exact storeTwo_far h k i j w h0 h1 j0 j1 (by omega) h2
    · refine storeTwo_no_high h k i j w h0 h1 j0 j1 (by omega) (fun hE => ?_)
      have := (M.prs_length h0 hE.1).2.2.2
      omega
end Go.Proofs.Ythmiekinjfaflaa
