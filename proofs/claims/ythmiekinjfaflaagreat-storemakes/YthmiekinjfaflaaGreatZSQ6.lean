/-
  What the program's store.entriesOf answers, where all can be made. Conditions: the slices hold terms, and subsets.
-/
import Derived.Test.YthmiekinjfaflaaGreatZLD4
import Derived.Test.YthmiekinjfaflaaGreatZSQ0
import Derived.Test.YthmiekinjfaflaaGreatZSt13
namespace Go.Proofs.YthmiekinjfaflaaGreat
open Go.RowKit
def EnOk (E : List M.En) : Prop := ∀ z ∈ E, elEnt.ok z
/-- terms as handed in, or made since -/
def TmIn (w0 : World) (vl : Value) (F : List M.Tm) (W : World) (y : Value) (B : List M.Tm) : Prop := (y = vl ∧ B = F) ∨ (W.ownsRow w0.heap.size 39 3 y B.length (elTm.cells B) ∧ M.Ok B)
theorem TmIn.ts {w0 W : World} {vl y : Value} {F B : List M.Tm} (h : TmIn w0 vl F W y B) (u : Ts w0 vl F) (hb : Below w0.heap.size w0 W) : Ts W y B := by
  rcases h with ⟨rfl, rfl⟩ | ⟨h1, h2⟩
  · exact u.below hb
  · exact ts_ofown h1 h2
theorem TmIn.below {w0 W W' : World} {vl y : Value} {F B : List M.Tm} (h : TmIn w0 vl F W y B) (hb : Below W.heap.size W W') : TmIn w0 vl F W' y B := by
  rcases h with h | ⟨h1, h2⟩
  · exact .inl h
  · exact .inr ⟨own_keptq h1 hb, h2⟩
set_option maxRecDepth 100000 in
theorem TmIn.set {w0 W : World} {vl y : Value} {F B : List M.Tm} (h : TmIn w0 vl F W y B) {base g n cap : Nat} {xs : List Value} (hr : W.ownsRow base 57 11 (.slice (some ⟨g, 0, none⟩) n cap) n xs) (o : Nat) (L : List Value) : TmIn w0 vl F (W.setCells g o L) y B := by
  rcases h with h | ⟨h1, h2⟩
  · exact .inl h
  · refine .inr ⟨?_, h2⟩
    rcases own_apart14 h1 hr (by decide) with ha | ha
    · rcases h1 with ⟨h0, h | ⟨g', cap', cur, e1, -⟩⟩
      · exact ⟨h0, .inl h⟩
      · rw [e1] at ha; cases ha
    · rcases h1 with ⟨h0, h | ⟨g', cap', cur, e1, e2, e3, e4⟩⟩
      · exact ⟨h0, .inl h⟩
      · refine ⟨h0, .inr ⟨g', cap', cur, e1, e2, ?_, e4⟩⟩
        have hne : g' ≠ g := fun e => by
          subst e
          rw [e1] at ha
          exact ha rfl
        exact (heap_setL hne L o W).trans e3
set_option maxRecDepth 100000 in
theorem own_cells14 {W : World} {base g n cap : Nat} {xs ys : List Value} (h : W.ownsRow base 57 11 (.slice (some ⟨g, 0, none⟩) n cap) n xs) (e : xs = ys) : W.ownsRow base 57 11 (.slice (some ⟨g, 0, none⟩) n cap) n ys := e ▸ h
set_option maxRecDepth 100000 in
set_option maxHeartbeats 16000000 in
theorem sentries_eq {F : List M.Tm} {h k : Int} {m : M.Val} {C : List (Int × Int)} {E : List M.En} {F' : List M.Tm} (hx : M.mkR h k m C F = (E, F', 0)) (hC : C.length ≤ 1100) (hfit : ∀ x ∈ C, 0 ≤ x.1 ∧ x.1 ≤ 18446744073709551615 ∧ 0 ≤ x.2 ∧ x.2 ≤ 18446744073709551615) {vl vc : Value} (w : World) (u : Ts w vl F) (us : Ss w vc C) :
    Calls Tryz.prog 17 #[vl, .int .i64 h, .int .i64 k, (.agg #[.bool m.1, .bool m.2.1, .int .u64 (M.nu m.2.2.1.1), .int .u64 (M.nu m.2.2.1.2), .int .u64 (M.nu m.2.2.2.1.1.1), .int .u64 (M.nu m.2.2.2.1.1.2), .int .u64 (M.nu m.2.2.2.1.2.1), .int .u64 (M.nu m.2.2.2.1.2.2), .int .i64 m.2.2.2.2]), vc] w fun e w' => ∃ v1 v2, e = .returned (.tuple #[v1, v2]) ∧ w'.ownsRow w.heap.size 57 11 v1 E.length (elEnt.cells E) ∧ EnOk E ∧ Ts w' v2 F' ∧ Below w.heap.size w w' := by
  obtain ⟨i0, hi, hz0, hz1, hz2⟩ := info_parts Tryz.infoEnt
  have M0 := hidq (Bx9.new w m)
  have U0 := hidq (u.alloc (.cells #[.bool m.1, .bool m.2.1, .int .u64 (M.nu m.2.2.1.1), .int .u64 (M.nu m.2.2.1.2), .int .u64 (M.nu m.2.2.2.1.1.1), .int .u64 (M.nu m.2.2.2.1.1.2), .int .u64 (M.nu m.2.2.2.1.2.1), .int .u64 (M.nu m.2.2.2.1.2.2), .int .i64 m.2.2.2.2] 29))
  have S0 := hidq (us.alloc (.cells #[.bool m.1, .bool m.2.1, .int .u64 (M.nu m.2.2.1.1), .int .u64 (M.nu m.2.2.1.2), .int .u64 (M.nu m.2.2.2.1.1.1), .int .u64 (M.nu m.2.2.2.1.1.2), .int .u64 (M.nu m.2.2.2.1.2.1), .int .u64 (M.nu m.2.2.2.1.2.2), .int .i64 m.2.2.2.2] 29))
  have B0 := hidq (show Below w.heap.size w (w.alloc (.cells #[.bool m.1, .bool m.2.1, .int .u64 (M.nu m.2.2.1.1), .int .u64 (M.nu m.2.2.1.2), .int .u64 (M.nu m.2.2.2.1.1.1), .int .u64 (M.nu m.2.2.2.1.1.2), .int .u64 (M.nu m.2.2.2.1.2.1), .int .u64 (M.nu m.2.2.2.1.2.2), .int .i64 m.2.2.2.2] 29)) from below_one (Below.refl _ _))
  obtain ⟨ap, cp, rfl, kp, kM, vp⟩ := us.form
  have VP := hidq vp
  have HX := hidq hx
  have HF := hidq hfit
  have HC := hidq hC
  clear u us hx hfit hC vp kM
  generalize hN : C.length = N at *
  have HN := hidq hN
  clear hN
  go_enter Tryz.func17, Tryz.ntmps17
  go_upto_region 1 with fail
  generalize w.alloc (.cells #[.bool m.1, .bool m.2.1, .int .u64 (M.nu m.2.2.1.1), .int .u64 (M.nu m.2.2.1.2), .int .u64 (M.nu m.2.2.2.1.1.1), .int .u64 (M.nu m.2.2.2.1.1.2), .int .u64 (M.nu m.2.2.2.1.2.1), .int .u64 (M.nu m.2.2.2.1.2.2), .int .i64 m.2.2.2.2] 29) = w0 at *
  go_wp2_with (at_make; refine wpList_make_full _ rfl _ _ 30 rfl w0.heap.size 57 i0 (.agg #[.int .u64 0, .int .u64 0, .bool false, .bool false, .int .u64 0, .int .u64 0, .int .u64 0, .int .u64 0, .int .u64 0, .int .u64 0, .int .i64 0]) 11 Tryz.underlying30 hi hz0 hz1 _ _ _ _ N rfl rfl rfl rfl ?b2 ?b3 ?b4 ?_)
  case b2 => rw [hz2]; have := HC.out; omega
  case b3 => unfold maxLen; have := HC.out; omega
  case b4 => exact Nat.le_refl _
  intro w1 hown hgrow
  have HB1 := hidq (show Below w0.heap.size w0 w1 from (Below.refl _ w0).grown hgrow (Nat.le_refl _) (fun k hk => by cases hk))
  rw [elEnt_zeros] at hown
  have HO1 := hidq hown
  clear hown hgrow hz0 hz1 hz2 hi
  go_wp2
  go_loopw [20, 0] (fun a yv wr => ∃ (q : Nat) (D : List M.En) (B : List M.Tm), q ≤ N ∧ a = .int .i64 q ∧ (D.length = q ∧ M.preE D (M.mkR h k m (C.drop q) B) = (E, F', 0) ∧ (∀ z ∈ D, elEnt.ok z)) ∧ wr.ownsRow w0.heap.size 57 11 (.slice (some ⟨w0.heap.size, 0, none⟩) N N) N (elEnt.cells (D ++ List.replicate (N - q) M.zE)) ∧ TmIn w0 vl F wr yv B ∧ Below w0.heap.size w0 wr) (fun a _ _ => N - (intOf a).toNat)
  case atStart => exact ⟨0, [], F, by omega, rfl, ⟨rfl, by rw [List.drop_zero, HX.out]; rfl, by simp⟩, HO1.out, .inl ⟨rfl, rfl⟩, HB1.out⟩
  case round =>
    obtain ⟨q, D, B, hq, rfl, ⟨he1, he2, he3⟩, hown, htm, hb⟩ := hrel
    have HO := hidq hown
    have HB := hidq hb
    have HE1 := hidq he1
    have HE2 := hidq he2
    have HE3 := hidq he3
    have HT := hidq htm
    have hN8 := HC.out
    clear he1 he2 he3 hown htm
    by_cases hqn : q < N
    · have hqi : (q : Int) < N := by omega
      have HQN := hidq hqn
      obtain ⟨bF, oF, rfl⟩ := VP.out (by omega)
      obtain ⟨s, hs⟩ : ∃ s, C[q]? = some s := ⟨_, List.getElem?_eq_getElem (by rw [HN.out]; exact hqn)⟩
      obtain ⟨p1, p2⟩ := Ss.at (S0.out.below hb) hs
      obtain ⟨b1, b2, b3, b4⟩ := HF.out s (List.mem_of_getElem? hs)
      have HD := M.drop_cons14 hs
      obtain ⟨y, d⟩ := s
      dsimp only at p1 p2 b1 b2 b3 b4
      have hgs : w0.heap.size < wr.heap.size := (HO.out.lt _ rfl).2
      have O1 := own_kept HO.out (below_one (o := (.cells #[.int .u64 y, .int .u64 d] 46)) (Below.refl wr.heap.size wr))
      rw [show N - q = (N - (q + 1)) + 1 by omega, List.replicate_succ] at O1
      obtain ⟨WZ, hWZ⟩ : ∃ WZ, (wr.alloc (.cells #[.int .u64 y, .int .u64 d] 46)).setCells w0.heap.size (q * 11) [.int .u64 y, .int .u64 d] = WZ := ⟨_, rfl⟩
      have hs1 := run_setL O1 46 (q * 11) [.int .u64 y, .int .u64 d] (by simp only [List.length_cons, List.length_nil]; omega) infoS2 (by intro v hv; simp at hv; rcases hv with rfl | rfl <;> rfl)
      rw [hWZ] at hs1
      have O2 := hidq (show WZ.ownsRow w0.heap.size 57 11 (.slice (some ⟨w0.heap.size, 0, none⟩) N N) N (elEnt.cells (D ++ ((y, d), M.zV) :: List.replicate (N - (q + 1)) M.zE)) from hWZ ▸ own_cells14 (row_setL [.int .u64 y, .int .u64 d] (q * 11) O1) (elEnt_S D _ (y, d) (0, 0) M.zV q HE1.out))
      have T1 := hidq (show TmIn w0 vl F WZ u0 B from hWZ ▸ TmIn.set (HT.out.below (below_one (o := (.cells #[.int .u64 y, .int .u64 d] 46)) (Below.refl _ _))) O1 _ _)
      have B2 := hidq (show Below w0.heap.size w0 WZ from hWZ ▸ below_setL (Nat.le_refl _) [.int .u64 y, .int .u64 d] (q * 11) _ (below_one (o := (.cells #[.int .u64 y, .int .u64 d] 46)) hb))
      have X2 : Bi WZ wr.heap.size 46 y d := hWZ ▸ (heap_setL (by omega) [.int .u64 y, .int .u64 d] (q * 11) (wr.alloc (.cells #[.int .u64 y, .int .u64 d] 46))).trans (Bi.new wr 46 y d)
      have x2c := X2.facts
      have HWZ := hidq (show w0.heap.size ≤ WZ.heap.size from B2.out.size)
      have T2 := hidq (T1.out.ts U0.out B2.out)
      have mc := (M0.out.below B2.out).cells
      clear hs hb hWZ O1 T1
      by_cases hJ : d = 0
      · have hJb : (d == 0) = true := by rw [hJ]; rfl
        obtain ⟨⟨x2, L2, n2⟩, hk⟩ : ∃ r, M.keyA B h k m y d = r := ⟨_, rfl⟩
        have hst : M.stpA B h k m (y, d) = (x2, L2, n2) := by unfold M.stpA; rw [if_pos hJ]; exact hk
        have HKe := hidq (fun W (u : Ts W u0 B) => lkey_eq hk b1 b2 b3 b4 W u)
        have HOk2 := hidq (M.key_okL hk)
        by_cases hn : n2 = 0
        · subst hn
          have HNx := hidq (show M.preE (D ++ [((y, d), x2)]) (M.mkR h k m (C.drop (q + 1)) L2) = (E, F', 0) by rw [← HE2.out, HD, M.mkR_step hst, M.preE_preE])
          have HFt := hidq (show elEnt.ok (((y, d) : Int × Int), x2) from ⟨b1, b2, b3, b4⟩)
          clear hk hst HD hJ b1 b2 b3 b4
          go_wp2_with (first | (refine wpList_stoE w0.heap.size (q * 11) [.int .u64 y, .int .u64 d] WZ rfl rfl hs1 ?_; clear hs1) | (go_at_call 30; refine (HKe.out _ T2.out).mono ?_; rintro e w6 ⟨v6, rfl, ho6, hb6⟩; have O6 := own_kept O2.out hb6; obtain ⟨WY, hWY⟩ : ∃ WY, w6.setCells w0.heap.size (q * 11 + 2) (valL x2) = WY := ⟨_, rfl⟩; have hs6 := run_setL O6 29 (q * 11 + 2) (valL x2) (by have := HQN.out; simp only [List.length_cons, List.length_nil]; omega) infoV9 (valL_one x2); rw [hWY] at hs6; have O7 := hidq (show WY.ownsRow w0.heap.size 57 11 (.slice (some ⟨w0.heap.size, 0, none⟩) N N) N (elEnt.cells (D ++ ((y, d), x2) :: List.replicate (N - (q + 1)) M.zE)) from hWY ▸ own_cells14 (row_setL (valL x2) (q * 11 + 2) O6) (elEnt_V D _ (y, d) M.zV x2 q HE1.out)); have T7 := hidq (show TmIn w0 vl F WY v6 L2 from hWY ▸ TmIn.set (.inr ⟨own_lowerq ho6 HWZ.out, HOk2.out⟩) O6 _ _); have B7 := hidq (show Below w0.heap.size w0 WY from hWY ▸ below_setL (Nat.le_refl _) (valL x2) (q * 11 + 2) w6 (below_trans B2.out hb6)); clear hWY O6 ho6 hb6) | (refine wpList_stoE w0.heap.size (q * 11 + 2) (valL x2) WY rfl rfl hs6 ?_; clear hs6))
          go_roundw
          case rel => exact ⟨q + 1, D ++ [((y, d), x2)], L2, by omega, by go_num, ⟨by rw [List.length_append, HE1.out]; rfl, HNx.out, fun z hz => by
            rcases List.mem_append.1 hz with hz | hz
            · exact HE3.out z hz
            · simp at hz; subst hz; exact HFt.out⟩, by rw [List.append_assoc]; exact O7.out, T7.out, B7.out⟩
          case measure => simp [intOf]; omega
        · have := HE2.out
          rw [HD, M.mkR_stop hst hn, M.preE_bad hn] at this
          simp only [Prod.mk.injEq] at this
          exact absurd this.2.2 hn
      · have hJb : (d == 0) = false := beq_eq_false_iff_ne.2 hJ
        obtain ⟨⟨x2, L2, n2⟩, hk⟩ : ∃ r, M.labA B h m y d = r := ⟨_, rfl⟩
        have hst : M.stpA B h k m (y, d) = (x2, L2, n2) := by unfold M.stpA; rw [if_neg hJ]; exact hk
        have HKe := hidq (fun W (u : Ts W u0 B) => llab_eq hk b1 b2 b3 b4 W u)
        have HOk2 := hidq (M.lab_okL hk)
        by_cases hn : n2 = 0
        · subst hn
          have HNx := hidq (show M.preE (D ++ [((y, d), x2)]) (M.mkR h k m (C.drop (q + 1)) L2) = (E, F', 0) by rw [← HE2.out, HD, M.mkR_step hst, M.preE_preE])
          have HFt := hidq (show elEnt.ok (((y, d) : Int × Int), x2) from ⟨b1, b2, b3, b4⟩)
          clear hk hst HD b1 b2 b3 b4 hJ
          go_wp2_with (first | (refine wpList_stoE w0.heap.size (q * 11) [.int .u64 y, .int .u64 d] WZ rfl rfl hs1 ?_; clear hs1) | (go_at_call 31; refine (HKe.out _ T2.out).mono ?_; rintro e w6 ⟨v6, rfl, ho6, hb6⟩; have O6 := own_kept O2.out hb6; obtain ⟨WY, hWY⟩ : ∃ WY, w6.setCells w0.heap.size (q * 11 + 2) (valL x2) = WY := ⟨_, rfl⟩; have hs6 := run_setL O6 29 (q * 11 + 2) (valL x2) (by have := HQN.out; simp only [List.length_cons, List.length_nil]; omega) infoV9 (valL_one x2); rw [hWY] at hs6; have O7 := hidq (show WY.ownsRow w0.heap.size 57 11 (.slice (some ⟨w0.heap.size, 0, none⟩) N N) N (elEnt.cells (D ++ ((y, d), x2) :: List.replicate (N - (q + 1)) M.zE)) from hWY ▸ own_cells14 (row_setL (valL x2) (q * 11 + 2) O6) (elEnt_V D _ (y, d) M.zV x2 q HE1.out)); have T7 := hidq (show TmIn w0 vl F WY v6 L2 from hWY ▸ TmIn.set (.inr ⟨own_lowerq ho6 HWZ.out, HOk2.out⟩) O6 _ _); have B7 := hidq (show Below w0.heap.size w0 WY from hWY ▸ below_setL (Nat.le_refl _) (valL x2) (q * 11 + 2) w6 (below_trans B2.out hb6)); clear hWY O6 ho6 hb6) | (refine wpList_stoE w0.heap.size (q * 11 + 2) (valL x2) WY rfl rfl hs6 ?_; clear hs6))
          go_roundw
          case rel => exact ⟨q + 1, D ++ [((y, d), x2)], L2, by omega, by go_num, ⟨by rw [List.length_append, HE1.out]; rfl, HNx.out, fun z hz => by
            rcases List.mem_append.1 hz with hz | hz
            · exact HE3.out z hz
            · simp at hz; subst hz; exact HFt.out⟩, by rw [List.append_assoc]; exact O7.out, T7.out, B7.out⟩
          case measure => simp [intOf]; omega
        · have := HE2.out
          rw [HD, M.mkR_stop hst hn, M.preE_bad hn] at this
          simp only [Prod.mk.injEq] at this
          exact absurd this.2.2 hn
    · obtain rfl : q = N := by omega
      have hqi : ¬ (q : Int) < q := by omega
      have HNx := HE2.out
      rw [List.drop_of_length_le (by rw [HN.out]; exact Nat.le_refl _), M.mkR_nil, M.preE_end] at HNx
      simp only [Prod.mk.injEq] at HNx
      obtain ⟨rfl, rfl, -⟩ := HNx
      have UT := hidq (HT.out.ts U0.out hb)
      have hl := M0.out.lt
      have OF := hidq (show wr.ownsRow w.heap.size 57 11 (.slice (some ⟨w0.heap.size, 0, none⟩) q q) D.length (elEnt.cells D) from own_lowerq (by have := HO.out; rw [Nat.sub_self, List.replicate_zero, List.append_nil] at this; rw [HE1.out]; exact this) (by omega))
      clear hb
      go_wp2
      refine bodyPost_ret (v := .tuple #[_, _]) (by simp [results, go_sem, Tryz.results17]) rfl ⟨_, _, rfl, OF.out, (show EnOk D from HE3.out), UT.out, below_trans B0.out HB.out⟩
end Go.Proofs.YthmiekinjfaflaaGreat
