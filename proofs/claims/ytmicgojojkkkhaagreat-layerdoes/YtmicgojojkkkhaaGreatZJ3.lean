/-
  What the document's Order answers of subsets whose I's rise: the same ones. Conditions: the slice holds them, they fit their kind.
-/
import Derived.Test.YtmicgojojkkkhaaGreatZI2
import Derived.Test.YtmicgojojkkkhaaGreatZJ0
import Derived.Test.YtmicgojojkkkhaaGreatZO10
namespace Go.Proofs.YtmicgojojkkkhaaGreat
open Go.RowKit
theorem sl_zero {P : Program} {α : Type} {E : Elt P α} {W : World} {ao : Option Addr} {c : Nat} (hc : c ≤ maxLen) (h : 0 < c → ∃ b off, ao = some ⟨b, off, none⟩ ∧ b < W.heap.size) : Sl E W (.slice ao 0 c) [] :=
  ⟨ao, c, rfl, by simp, hc, by simp, fun h0 => by obtain ⟨b, off, e, hb⟩ := h h0; exact ⟨b, off, e, hb, fun j hj => by simp at hj⟩⟩
theorem lss_no {I J K L : Int} (h : K < I) : M.lssB I J K L = false := by
  unfold M.lssB
  rw [decide_eq_false (by omega), decide_eq_false (by omega)]; rfl
set_option maxRecDepth 100000 in
theorem own_form2 {W : World} {base : Nat} {v : Value} {n : Nat} {L : List (Int × Int)} (h : W.ownsRow base 25 2 v n (elSub.cells L)) (hb : ∀ x ∈ L, 0 ≤ x.1 ∧ x.1 ≤ 18446744073709551615 ∧ 0 ≤ x.2 ∧ x.2 ≤ 18446744073709551615) : Ss W v L := Sl.of_own (E := elSub) h hb
set_option maxRecDepth 100000 in
theorem row_more {W : World} {base k : Nat} {v : Value} {X : List (Int × Int)} {s : Int × Int} (h : W.ownsRow base 25 2 v (0 + (X.take k).length + [s].length + ([] : List (Int × Int)).length) (elSub.cells (([] ++ X.take k ++ [s]) ++ []))) (hT : X.take (k + 1) = X.take k ++ [s]) (hk : (X.take k).length = k) :
    W.ownsRow base 25 2 v (k + 1) (elSub.cells (X.take (k + 1))) := by
  rw [List.nil_append, List.append_nil, ← hT, hk, show 0 + k + [s].length + ([] : List (Int × Int)).length = k + 1 by simp] at h
  exact h
set_option maxRecDepth 100000 in
set_option maxHeartbeats 4000000 in
theorem rorder_any (X : List (Int × Int)) (v : Value) (w : World) (hu : Ss w v X) (hX : X.length ≤ 160000) (hr : X.Pairwise fun s t => s.1 < t.1) :
    Calls Tryz.prog 22 #[v] w fun e w' => ∃ v', e = .returned v' ∧ Ss w' v' X ∧ Below w.heap.size w w' := by
  obtain ⟨ao, cap, rfl, hc1, -, hp⟩ := hu.form
  have U := hidq hu
  have HF := hidq (fun x hx => hu.oks x hx)
  have HP := hidq hp
  have HX := hidq hX
  have HR := hidq (fun (q k : Nat) (x y : Int × Int) (hq : X[q]? = some x) (hk : X[k]? = some y) (hqk : q < k) => show x.1 < y.1 by
    obtain ⟨h1, rfl⟩ := List.getElem?_eq_some_iff.1 hq
    obtain ⟨h2, rfl⟩ := List.getElem?_eq_some_iff.1 hk
    exact List.pairwise_iff_getElem.1 hr q k h1 h2 hqk)
  have HC := hidq hc1
  clear hu hp hX hr hc1
  generalize hN : X.length = N at *
  have HN := hidq hN
  clear hN
  go_enter Tryz.func22, Tryz.ntmps22
  go_wp2
  go_loopw [10, 3] (fun i x wr => ∃ k : Nat, k ≤ N ∧ i = .int .i64 k ∧ (k = 0 → x = .slice none 0 0) ∧ wr.ownsRow w.heap.size 25 2 x k (elSub.cells (X.take k)) ∧ Below w.heap.size w wr) (fun i _ _ => N - (intOf i).toNat)
  case atStart => exact ⟨0, by omega, rfl, fun _ => rfl, World.ownsRow_nil _ _ _ _, Below.refl _ _⟩
  case round =>
    obtain ⟨k, hk, rfl, hk0, hown, hb⟩ := hrel
    obtain ⟨wz, hwz⟩ : ∃ wz, wz = wr := ⟨_, rfl⟩
    subst hwz
    have BX := hidq hb
    by_cases hkn : k < N
    · have hki : (k : Int) < N := by omega
      have hN8 := HX.out
      obtain ⟨bF, oF, rfl⟩ := HP.out (by have := HC.out; omega)
      obtain ⟨s, hs⟩ : ∃ s, X[k]? = some s := ⟨_, List.getElem?_eq_getElem (by rw [HN.out]; exact hkn)⟩
      obtain ⟨x1, x2⟩ := Ss.at (U.out.below hb) hs
      have HT := hidq (show X.take (k + 1) = X.take k ++ [s] by rw [List.take_add_one, hs]; rfl)
      have FS := hidq (HF.out s (List.mem_of_getElem? hs))
      have HL := hidq (fun q (x : Int × Int) (hq : X[q]? = some x) (hqk : q < k) => HR.out q k x s hq hs hqk)
      obtain ⟨s1, s2⟩ := s
      dsimp only at x1 x2 HL
      have SX := hidq (Bi.new wz 25 s1 s2)
      have OX := hidq (own_form2 hown fun x hx => HF.out x (List.mem_of_mem_take hx))
      have hkl : (X.take k).length = k := by rw [List.length_take, HN.out]; omega
      have RX := hidq (below_one (o := (.cells #[.int .u64 s1, .int .u64 s2] 25)) hb)
      have RW := hidq (below_one (o := (.cells #[.int .u64 s1, .int .u64 s2] 25)) (Below.refl wz.heap.size wz))
      have HKL := hidq hkl
      have T1 := hidq trivial
      have T2 := hidq trivial
      by_cases hz : k = 0
      · obtain rfl := hk0 hz
        subst hz
        clear hs hb hown hk0 hkl
        simp only [Nat.zero_mul, Nat.add_zero] at x1 x2
        have hN0 : (0 : Int) < N := by omega
        go_wp2
        go_loopw [6] (fun a wq => ∃ (q : Nat), q ≤ 0 ∧ a = .int .i64 q ∧ Below (wz.alloc (.cells #[.int .u64 s1, .int .u64 s2] 25)).heap.size (wz.alloc (.cells #[.int .u64 s1, .int .u64 s2] 25)) wq) (fun a _ => 0 - (intOf a).toNat)
        case atStart => exact ⟨0, by omega, rfl, Below.refl _ _⟩
        case round =>
          obtain ⟨q, hq, rfl, hbq⟩ := hrel
          have SQ := hidq (SX.out.below hbq)
          have OQ := hidq ((OX.out.below RW.out).below hbq)
          obtain ⟨G, HG, HFc, HOc, HW, ne⟩ := clq_of (wz.alloc (.cells #[.int .u64 s1, .int .u64 s2] 25)) wr (fun X' => Bi X' wz.heap.size 25 s1 s2 ∧ Ss X' (.slice none 0 0) (X.take 0)) (fun _ _ h hb => ⟨h.1.below hb, h.2.below hb⟩) ⟨SQ.out, OQ.out⟩ hbq
          have h1c := fun c : Clq G => (HFc.out c).1.facts.1
          have h2c := fun c : Clq G => (HFc.out c).1.facts.2
          · obtain rfl : q = 0 := by omega
            have hqi : ¬ (((0 : Nat) : Int) < ((0 : Nat) : Int)) := by omega
            clear hbq
            go_wp2
            refine regionq (by kernel_rfl) (by kernel_rfl) HW.out ?_
            repeat (go_big_quiet_step (fail))
            refine wpQuiet_nil ?_
            rintro _ ⟨s9, rfl⟩
            have SQ := hidq (HFc.out s9).1
            have OS := hidq (HFc.out s9).2
            have HZ := hidq (show wz.heap.size ≤ s9.W.heap.size by have := (HOc.out s9).size; simp at this; omega)
            have BQ := hidq (below_trans RX.out (HOc.out s9))
            obtain ⟨SQa, SQb⟩ := SQ.out.facts
            generalize s9.W = W9 at *
            clear h1c h2c
            go_wp2_with (first | (at_builtin; clear T1; refine wpList_append_sl (E := elSub) rfl _ _ rfl w.heap.size _ 0 [] rfl (World.ownsRow_nil _ _ _ _) _ _ rfl OS.out (by simp only [List.length_take]; omega) BQ.out.size ?_; intro v1 w1 hown1 hgrow1; have O1 := hidq hown1; have G1 := hidq ((Below.refl W9.heap.size W9).grown hgrow1 (Nat.le_refl _) (fun q hq => by cases hq)); have B1 := hidq (BQ.out.grown hgrow1 BQ.out.size (fun q hq => by cases hq)); have S1 := SQ.out.below G1.out; obtain ⟨S1a, S1b⟩ := S1.facts; clear hown1 hgrow1) | (at_builtin; clear T2; refine wpList_append_sl (E := elSub) rfl _ _ rfl w.heap.size _ _ _ rfl (own_kept O1.out (below_one (o := (.cells #[.int .u64 s1, .int .u64 s2] 25)) (Below.refl w1.heap.size w1))) _ [(s1, s2)] rfl (Ss.oneq _ _ s1 s2 _ (by first | rfl | simp) FS.out) (by simp only [List.length_cons, List.length_nil, List.length_take]; omega) (by have := B1.out.size; simp; omega) ?_; intro v2 w2 hown2 hgrow2; have O2 := hidq hown2; have B2 := hidq ((below_one (o := (.cells #[.int .u64 s1, .int .u64 s2] 25)) B1.out).grown hgrow2 (by have := B1.out.size; simp; omega) (fun q hq => (O1.out.lt q hq).1)); have Z2 := hidq (show W9.heap.size ≤ w2.heap.size by have := G1.out.size; have := hgrow2.size; simp at this; omega); clear hown2 hgrow2) | (at_builtin; refine wpList_append_sl (E := elSub) rfl _ _ rfl w.heap.size _ _ _ rfl O2.out _ [] rfl (by first | exact Sl.empty | exact sl_zero (by unfold maxLen; omega) (fun _ => ⟨bO, _, rfl, Nat.lt_of_lt_of_le hbO.out (Nat.le_trans HZ.out Z2.out)⟩)) (by simp only [List.length_cons, List.length_nil, List.length_take]; omega) B2.out.size ?_; intro v3 w3 hown3 hgrow3; have O3 := hidq hown3; have B3 := hidq (B2.out.grown hgrow3 B2.out.size (fun q hq => (O2.out.lt q hq).1)); clear hown3 hgrow3))
            go_roundw
            case rel => exact ⟨0 + 1, by omega, by go_num, fun h => absurd h (by omega), row_more O3.out HT.out HKL.out, B3.out⟩
            case measure => simp [intOf]; omega
      · obtain ⟨a2, c2, rfl, kc2, mc2, v2⟩ := OX.out.form
        rw [hkl] at kc2 OX
        obtain ⟨bO, oO, rfl⟩ := v2 (by omega)
        rw [hkl]
        have hc0 : ¬ c2 = 0 := by omega
        have hbO := hidq (Sl.block OX.out (by rw [hkl]; omega))
        unfold maxLen at mc2
        clear hs hb hown hk0 v2 hkl
        by_cases hck : c2 = k
        · clear mc2 kc2
          subst hck
          go_wp2
          go_loopw [6] (fun a wq => ∃ (q : Nat), q ≤ c2 ∧ a = .int .i64 q ∧ Below (wz.alloc (.cells #[.int .u64 s1, .int .u64 s2] 25)).heap.size (wz.alloc (.cells #[.int .u64 s1, .int .u64 s2] 25)) wq) (fun a _ => c2 - (intOf a).toNat)
          case atStart => exact ⟨0, by omega, rfl, Below.refl _ _⟩
          case round =>
            obtain ⟨q, hq, rfl, hbq⟩ := hrel
            have SQ := hidq (SX.out.below hbq)
            have OQ := hidq ((OX.out.below RW.out).below hbq)
            obtain ⟨G, HG, HFc, HOc, HW, ne⟩ := clq_of (wz.alloc (.cells #[.int .u64 s1, .int .u64 s2] 25)) wr (fun X' => Bi X' wz.heap.size 25 s1 s2 ∧ Ss X' (.slice (some ⟨bO, oO, none⟩) c2 c2) (X.take c2)) (fun _ _ h hb => ⟨h.1.below hb, h.2.below hb⟩) ⟨SQ.out, OQ.out⟩ hbq
            have h1c := fun c : Clq G => (HFc.out c).1.facts.1
            have h2c := fun c : Clq G => (HFc.out c).1.facts.2
            by_cases hqk : q < c2
            · have hqi : (q : Int) < c2 := by omega
              obtain ⟨x, hx⟩ : ∃ x, X[q]? = some x := ⟨_, List.getElem?_eq_getElem (by rw [HN.out]; omega)⟩
              have hxt : (X.take c2)[q]? = some x := by rw [List.getElem?_take, if_pos hqk, hx]
              have hlt := HL.out q x hx hqk
              have hfx := HF.out x (List.mem_of_getElem? hx)
              obtain ⟨y, z⟩ := x
              have LC := hidq (fun W => rless8_any s1 s2 y z W ⟨FS.out.1, FS.out.2.1⟩ ⟨FS.out.2.2.1, FS.out.2.2.2⟩ ⟨hfx.1, hfx.2.1⟩ ⟨hfx.2.2.1, hfx.2.2.2⟩)
              rw [lss_no hlt] at LC
              have h3c := fun c : Clq G => (Ss.at (HFc.out c).2 hxt).1
              have h4c := fun c : Clq G => (Ss.at (HFc.out c).2 hxt).2
              dsimp only at h3c h4c
              have hqw : IntKind.i64.wrap ((q : Int) + 1) = (q : Int) + 1 := by rw [IntKind.wrap_i64]; omega
              clear hx hxt hlt hfx hbq
              go_wp2
              refine regionq (by kernel_rfl) (by kernel_rfl) HW.out ?_
              repeat (go_big_quiet_step (first | (go_at_call 54; exact quietq HG.out _ (LC.out _))))
              refine wpQuiet_nil ?_
              rintro _ ⟨s9, rfl⟩
              have hB9 := hidq (HOc.out s9)
              go_wp2
              go_roundw
              case rel => exact ⟨q + 1, by omega, by go_num, hB9.out⟩
              case measure => simp [intOf]; omega
            · obtain rfl : q = c2 := by omega
              have hqi : ¬ ((q : Int) < q) := by omega
              clear hbq
              go_wp2
              refine regionq (by kernel_rfl) (by kernel_rfl) HW.out ?_
              repeat (go_big_quiet_step (fail))
              refine wpQuiet_nil ?_
              rintro _ ⟨s9, rfl⟩
              have SQ := hidq (HFc.out s9).1
              have OS := hidq (HFc.out s9).2
              have HZ := hidq (show wz.heap.size ≤ s9.W.heap.size by have := (HOc.out s9).size; simp at this; omega)
              have BQ := hidq (below_trans RX.out (HOc.out s9))
              obtain ⟨SQa, SQb⟩ := SQ.out.facts
              generalize s9.W = W9 at *
              clear h1c h2c
              go_wp2_with (first | (at_builtin; clear T1; refine wpList_append_sl (E := elSub) rfl _ _ rfl w.heap.size _ 0 [] rfl (World.ownsRow_nil _ _ _ _) _ _ rfl OS.out (by simp only [List.length_take]; omega) BQ.out.size ?_; intro v1 w1 hown1 hgrow1; have O1 := hidq hown1; have G1 := hidq ((Below.refl W9.heap.size W9).grown hgrow1 (Nat.le_refl _) (fun q hq => by cases hq)); have B1 := hidq (BQ.out.grown hgrow1 BQ.out.size (fun q hq => by cases hq)); have S1 := SQ.out.below G1.out; obtain ⟨S1a, S1b⟩ := S1.facts; clear hown1 hgrow1) | (at_builtin; clear T2; refine wpList_append_sl (E := elSub) rfl _ _ rfl w.heap.size _ _ _ rfl (own_kept O1.out (below_one (o := (.cells #[.int .u64 s1, .int .u64 s2] 25)) (Below.refl w1.heap.size w1))) _ [(s1, s2)] rfl (Ss.oneq _ _ s1 s2 _ (by first | rfl | simp) FS.out) (by simp only [List.length_cons, List.length_nil, List.length_take]; omega) (by have := B1.out.size; simp; omega) ?_; intro v2 w2 hown2 hgrow2; have O2 := hidq hown2; have B2 := hidq ((below_one (o := (.cells #[.int .u64 s1, .int .u64 s2] 25)) B1.out).grown hgrow2 (by have := B1.out.size; simp; omega) (fun q hq => (O1.out.lt q hq).1)); have Z2 := hidq (show W9.heap.size ≤ w2.heap.size by have := G1.out.size; have := hgrow2.size; simp at this; omega); clear hown2 hgrow2) | (at_builtin; refine wpList_append_sl (E := elSub) rfl _ _ rfl w.heap.size _ _ _ rfl O2.out _ [] rfl (by first | exact Sl.empty | exact sl_zero (by unfold maxLen; omega) (fun _ => ⟨bO, _, rfl, Nat.lt_of_lt_of_le hbO.out (Nat.le_trans HZ.out Z2.out)⟩)) (by simp only [List.length_cons, List.length_nil, List.length_take]; omega) B2.out.size ?_; intro v3 w3 hown3 hgrow3; have O3 := hidq hown3; have B3 := hidq (B2.out.grown hgrow3 B2.out.size (fun q hq => (O2.out.lt q hq).1)); clear hown3 hgrow3))
              go_roundw
              case rel => exact ⟨q + 1, by omega, by go_num, fun h => absurd h (by omega), row_more O3.out HT.out HKL.out, B3.out⟩
              case measure => simp [intOf]; omega
        · have hck2 : ¬ c2 - k = 0 := by omega
          go_wp2
          go_loopw [6] (fun a wq => ∃ (q : Nat), q ≤ k ∧ a = .int .i64 q ∧ Below (wz.alloc (.cells #[.int .u64 s1, .int .u64 s2] 25)).heap.size (wz.alloc (.cells #[.int .u64 s1, .int .u64 s2] 25)) wq) (fun a _ => k - (intOf a).toNat)
          case atStart => exact ⟨0, by omega, rfl, Below.refl _ _⟩
          case round =>
            obtain ⟨q, hq, rfl, hbq⟩ := hrel
            have SQ := hidq (SX.out.below hbq)
            have OQ := hidq ((OX.out.below RW.out).below hbq)
            obtain ⟨G, HG, HFc, HOc, HW, ne⟩ := clq_of (wz.alloc (.cells #[.int .u64 s1, .int .u64 s2] 25)) wr (fun X' => Bi X' wz.heap.size 25 s1 s2 ∧ Ss X' (.slice (some ⟨bO, oO, none⟩) k c2) (X.take k)) (fun _ _ h hb => ⟨h.1.below hb, h.2.below hb⟩) ⟨SQ.out, OQ.out⟩ hbq
            have h1c := fun c : Clq G => (HFc.out c).1.facts.1
            have h2c := fun c : Clq G => (HFc.out c).1.facts.2
            by_cases hqk : q < k
            · have hqi : (q : Int) < k := by omega
              obtain ⟨x, hx⟩ : ∃ x, X[q]? = some x := ⟨_, List.getElem?_eq_getElem (by rw [HN.out]; omega)⟩
              have hxt : (X.take k)[q]? = some x := by rw [List.getElem?_take, if_pos hqk, hx]
              have hlt := HL.out q x hx hqk
              have hfx := HF.out x (List.mem_of_getElem? hx)
              obtain ⟨y, z⟩ := x
              have LC := hidq (fun W => rless8_any s1 s2 y z W ⟨FS.out.1, FS.out.2.1⟩ ⟨FS.out.2.2.1, FS.out.2.2.2⟩ ⟨hfx.1, hfx.2.1⟩ ⟨hfx.2.2.1, hfx.2.2.2⟩)
              rw [lss_no hlt] at LC
              have h3c := fun c : Clq G => (Ss.at (HFc.out c).2 hxt).1
              have h4c := fun c : Clq G => (Ss.at (HFc.out c).2 hxt).2
              dsimp only at h3c h4c
              have hqw : IntKind.i64.wrap ((q : Int) + 1) = (q : Int) + 1 := by rw [IntKind.wrap_i64]; omega
              clear hx hxt hlt hfx hbq
              go_wp2
              refine regionq (by kernel_rfl) (by kernel_rfl) HW.out ?_
              repeat (go_big_quiet_step (first | (go_at_call 54; exact quietq HG.out _ (LC.out _))))
              refine wpQuiet_nil ?_
              rintro _ ⟨s9, rfl⟩
              have hB9 := hidq (HOc.out s9)
              go_wp2
              go_roundw
              case rel => exact ⟨q + 1, by omega, by go_num, hB9.out⟩
              case measure => simp [intOf]; omega
            · obtain rfl : q = k := by omega
              have hqi : ¬ ((q : Int) < q) := by omega
              clear hbq
              go_wp2
              refine regionq (by kernel_rfl) (by kernel_rfl) HW.out ?_
              repeat (go_big_quiet_step (fail))
              refine wpQuiet_nil ?_
              rintro _ ⟨s9, rfl⟩
              have SQ := hidq (HFc.out s9).1
              have OS := hidq (HFc.out s9).2
              have HZ := hidq (show wz.heap.size ≤ s9.W.heap.size by have := (HOc.out s9).size; simp at this; omega)
              have BQ := hidq (below_trans RX.out (HOc.out s9))
              obtain ⟨SQa, SQb⟩ := SQ.out.facts
              generalize s9.W = W9 at *
              clear h1c h2c
              go_wp2_with (first | (at_builtin; clear T1; refine wpList_append_sl (E := elSub) rfl _ _ rfl w.heap.size _ 0 [] rfl (World.ownsRow_nil _ _ _ _) _ _ rfl OS.out (by simp only [List.length_take]; omega) BQ.out.size ?_; intro v1 w1 hown1 hgrow1; have O1 := hidq hown1; have G1 := hidq ((Below.refl W9.heap.size W9).grown hgrow1 (Nat.le_refl _) (fun q hq => by cases hq)); have B1 := hidq (BQ.out.grown hgrow1 BQ.out.size (fun q hq => by cases hq)); have S1 := SQ.out.below G1.out; obtain ⟨S1a, S1b⟩ := S1.facts; clear hown1 hgrow1) | (at_builtin; clear T2; refine wpList_append_sl (E := elSub) rfl _ _ rfl w.heap.size _ _ _ rfl (own_kept O1.out (below_one (o := (.cells #[.int .u64 s1, .int .u64 s2] 25)) (Below.refl w1.heap.size w1))) _ [(s1, s2)] rfl (Ss.oneq _ _ s1 s2 _ (by first | rfl | simp) FS.out) (by simp only [List.length_cons, List.length_nil, List.length_take]; omega) (by have := B1.out.size; simp; omega) ?_; intro v2 w2 hown2 hgrow2; have O2 := hidq hown2; have B2 := hidq ((below_one (o := (.cells #[.int .u64 s1, .int .u64 s2] 25)) B1.out).grown hgrow2 (by have := B1.out.size; simp; omega) (fun q hq => (O1.out.lt q hq).1)); have Z2 := hidq (show W9.heap.size ≤ w2.heap.size by have := G1.out.size; have := hgrow2.size; simp at this; omega); clear hown2 hgrow2) | (at_builtin; refine wpList_append_sl (E := elSub) rfl _ _ rfl w.heap.size _ _ _ rfl O2.out _ [] rfl (by first | exact Sl.empty | exact sl_zero (by unfold maxLen; omega) (fun _ => ⟨bO, _, rfl, Nat.lt_of_lt_of_le hbO.out (Nat.le_trans HZ.out Z2.out)⟩)) (by simp only [List.length_cons, List.length_nil, List.length_take]; omega) B2.out.size ?_; intro v3 w3 hown3 hgrow3; have O3 := hidq hown3; have B3 := hidq (B2.out.grown hgrow3 B2.out.size (fun q hq => (O2.out.lt q hq).1)); clear hown3 hgrow3))
              go_roundw
              case rel => exact ⟨q + 1, by omega, by go_num, fun h => absurd h (by omega), row_more O3.out HT.out HKL.out, B3.out⟩
              case measure => simp [intOf]; omega
    · obtain rfl : k = N := by omega
      have hki : ¬ (k : Int) < k := by omega
      have HS := hidq (show Ss wz _ X from by have := own_form2 hown fun x hx => HF.out x (List.mem_of_mem_take hx); rwa [List.take_of_length_le (by rw [HN.out]; exact Nat.le_refl _)] at this)
      clear hb hown hk0
      go_wp2
      go_ret
      exact ⟨_, rfl, HS.out, BX.out⟩
end Go.Proofs.YtmicgojojkkkhaaGreat
namespace Go.Proofs.YtmicgojojkkkhaaGreat
open Go.RowKit
namespace M
theorem dfX_take {h : Int} {L T : List Int} (k : Nat) (hk : k < T.length) : (T.take (k + 1)).filter (fun n => decide (dnV h L n ≠ n)) = (T.take k).filter (fun n => decide (dnV h L n ≠ n)) ++ (if dnV h L (T[k]?.getD 0) ≠ T[k]?.getD 0 then [T[k]?.getD 0] else []) := by
  rw [take_getD k hk, List.filter_append]
  congr 1
  by_cases hx : dnV h L (T[k]?.getD 0) ≠ T[k]?.getD 0
  · rw [if_pos hx]; simp [hx]
  · rw [if_neg hx]; simp [hx]
theorem tops_take (F : List Int) (k : Nat) (hk : k < F.length) : 1 :: (F.take (k + 1)).flatMap kids2 = (1 :: (F.take k).flatMap kids2) ++ [2 * (F[k]?.getD 0), 2 * (F[k]?.getD 0) + 1] := by
  rw [take_getD k hk, List.flatMap_append]; simp [kids2]
end M
theorem us_twoq (w : World) (x y : Int) (e : TypeId) (B : Nat) (hB : w.heap.size = B) (hx : 0 ≤ x ∧ x ≤ 18446744073709551615) (hy : 0 ≤ y ∧ y ≤ 18446744073709551615) : Us (w.alloc (.cells #[.int .u64 x, .int .u64 y] e)) (.slice (some ⟨B, 0, none⟩) 2 2) [x, y] := by subst hB; exact us_two w x y e hx hy
theorem us_ptr {W : World} {ao : Option Addr} {n cap : Nat} {L : List Int} (h : Us W (.slice ao n cap) L) (h0 : 0 < n) : ∃ b off, ao = some ⟨b, off, none⟩ := by
  obtain ⟨a, c, e, -, hv⟩ := us_view h
  cases e
  obtain ⟨b, off, e, -⟩ := hv h0
  exact ⟨b, off, e⟩
theorem qu_below {W W0 W' : World} {base : Nat} {v : Value} {L : List Int} {e : TypeId} (hb : Below base W0 W) (g : W.grownBy W' (qblk v)) (q : Qu W base e v L) (hB : base ≤ W.heap.size) : Below base W0 W' := hb.grown g hB fun k hk => (q.lt k hk).1
set_option maxRecDepth 100000 in
set_option maxHeartbeats 4000000 in
theorem rdcover_any (h : Int) (L : List Int) (v : Value) (w : World) (hu : Us w v L) :
    Calls Tryz.prog 20 #[.int .i64 h, v] w fun e w' => ∃ v', e = .returned (.tuple #[v', .int .i64 (M.setE h L)]) ∧ Ss w' v' (M.dfL h L) ∧ Below w.heap.size w w' := by
  obtain ⟨i0, hi, hz0, hz1, hz2⟩ := info_parts Tryz.infoU64
  obtain ⟨ao, cap, rfl, -⟩ := us_view hu
  have FC := hidq (fun W (u : Us W (.slice ao L.length cap) L) => rstForks_any h L _ W u)
  by_cases hE : M.setE h L = 0
  · have hs := M.setE_zero.1 hE
    rw [hE] at FC ⊢
    by_cases hn : L = []
    · have hl0 : (L.length : Int) = 0 := by rw [hn]; rfl
      rw [show M.dfL h L = [(1, 0)] by subst hn; exact M.dfL_nil hs]
      clear hE hs hn
      go_enter Tryz.func20, Tryz.ntmps20
      go_wp2_with (first | (go_at_call 49; refine (FC.out _ hu).mono ?_; rintro e w1 ⟨v1, rfl, u1, hb1⟩; have B1 := hidq hb1; obtain ⟨a1, c1, rfl, -, hv1⟩ := us_view u1; have U1 := hidq u1; have V1 := hidq hv1; clear u1 hb1 hv1))
      go_ret2
      exact ⟨_, rfl, Ss.oneq _ _ 1 0 _ (by first | rfl | simp) (by omega), below_one B1.out⟩
    · have hl1 : 0 < L.length := List.length_pos_iff.2 hn
      have hl0 : ¬ (L.length : Int) = 0 := by omega
      have hl2 : ((L.length : Int) == 0) = false := by rw [beq_eq_false_iff_ne]; exact hl0
      rw [M.dfL_yes hs hn]
      have HFo := hidq (fun f hf => M.forks_ok (h := h) (L := L) hs (f := f) hf)
      obtain ⟨s1, s2, s3, -⟩ := M.set_of hs
      have hp32 := M.p2_32 s2
      have HFl := hidq (show (M.forks h L).length ≤ 1024 by have := M.forks_len hs hn; omega)
      have HTt := hidq (show M.tops h L = 1 :: (M.forks h L).flatMap M.kids2 from rfl)
      have HTo := hidq (fun n hn' => M.tops_in (h := h) (L := L) hs hn (n := n) hn')
      have HTl := hidq (show (M.tops h L).length ≤ 2048 by have := M.tops_len hs hn; omega)
      have HDo := hidq (fun n hn' => (M.dfX_sub (h := h) (L := L) hs hn (n := n) hn').2.2.2.1)
      have HTr := hidq (M.tops_rise hs)
      have HDk := hidq (fun n (hn' : M.inT h L n = true) => show 0 ≤ M.dnV h L n ∧ M.dnV h L n ≤ 18446744073709551615 by
        obtain ⟨B, b, c, D⟩ := M.dn_of hs hn'
        have := (M.ok_of D.om).2.2.1
        have := M.ok_lt D.om
        omega)
      rw [show M.tfV h L = M.forks h L by unfold M.tfV; rw [if_pos hE]; rfl] at FC
      unfold M.dfX
      generalize M.tops h L = T at *
      generalize M.forks h L = F at *
      have UL := hidq hu
      clear hE hs hn s1 s2 s3 hl1
      go_enter Tryz.func20, Tryz.ntmps20
      go_wp2_with (first | (go_at_call 49; refine (FC.out _ hu).mono ?_; rintro e w1 ⟨v1, rfl, u1, hb1⟩; have B1 := hidq hb1; obtain ⟨a1, c1, rfl, -, hv1⟩ := us_view u1; have U1 := hidq u1; have V1 := hidq hv1; clear u1 hb1 hv1))
      generalize hK : F.length = K at *
      have HK := hidq hK
      clear hK
      obtain ⟨Fn, hFn⟩ : ∃ Fn : Nat → List Int, ∀ k, Fn k = 1 :: (F.take k).flatMap M.kids2 := ⟨_, fun _ => rfl⟩
      have HF0 := hidq (show Fn 0 = [1] by rw [hFn]; rfl)
      have HFK := hidq (show Fn K = T by rw [hFn, List.take_of_length_le (by rw [HK.out]; exact Nat.le_refl _), HTt.out])
      have HFn := hidq (fun k (hk : k < F.length) => show Fn (k + 1) = Fn k ++ [2 * (F[k]?.getD 0), 2 * (F[k]?.getD 0) + 1] by rw [hFn, hFn, M.tops_take F k hk])
      have HFs := hidq (fun k => show (Fn k).length ≤ 2049 by
        rw [hFn, List.length_cons, M.kids2_flat, List.length_take]
        have := HFl.out
        have := HK.out
        omega)
      clear hFn
      go_loopw [33, 8] (fun i x wr => ∃ k : Nat, k ≤ K ∧ i = .int .i64 k ∧ Qu wr w1.heap.size 23 x (Fn k) ∧ Below w1.heap.size w1 wr) (fun i _ _ => K - (intOf i).toNat)
      case atStart => exact ⟨0, by omega, rfl, by rw [HF0.out]; exact Qu.one _ _ _ (by omega) (by omega) (Nat.le_refl _), below_one (Below.refl _ _)⟩
      case round =>
        obtain ⟨k, hk, rfl, hq, hb⟩ := hrel
        obtain ⟨ax, cx, rfl, -⟩ := hq.form
        have QO := hidq hq
        have BB := hidq hb
        by_cases hkn : k < K
        · have hki : (k : Int) < K := by omega
          obtain ⟨bF, oF, rfl, -⟩ := V1.out (by omega)
          have hkl : k < F.length := by rw [HK.out]; exact hkn
          have yc := (U1.out.below hb).cellAt k hkl
          have hfo := HFo.out (F[k]?.getD 0) (by rw [List.getElem?_eq_getElem hkl]; exact List.getElem_mem hkl)
          have HT := hidq (HFn.out k hkl)
          have hl9 := HFs.out k
          generalize F[k]?.getD 0 = f at *
          obtain ⟨-, g2, -, g4⟩ := hfo
          have hw1 : IntKind.u64.wrap (2 * f) = 2 * f := M.wrapu_id (by omega) (by omega)
          have hw2 : IntKind.u64.wrap (2 * f + 1) = 2 * f + 1 := M.wrapu_id (by omega) (by omega)
          have hf2 : 0 ≤ 2 * f ∧ 2 * f ≤ 18446744073709551615 := by omega
          have hf3 : 0 ≤ 2 * f + 1 ∧ 2 * f + 1 ≤ 18446744073709551615 := by omega
          have hK8 := HFl.out
          clear hq hb hkl
          go_wp2_with (first | (at_builtin; refine wpList_append_qu rfl _ _ 22 rfl w1.heap.size 23 i0 Tryz.underlying22 hi hz0 hz1 hz2 _ _ rfl (QO.out.alloc (.cells #[.int .u64 (2 * f), .int .u64 (2 * f + 1)] 23)) _ [2 * f, 2 * f + 1] rfl (us_twoq _ _ _ _ _ (by first | rfl | simp) hf2 hf3) (by simp only [List.length_cons, List.length_nil]; omega) (by have := BB.out.size; simp; omega) ?_; intro v3 w3 q3 g3 n3; obtain ⟨ao3, cap3, rfl, -⟩ := q3.form; rw [show (Fn k ++ [2 * f, 2 * f + 1]).length = (Fn k).length + 2 by simp] at q3; have B3 := hidq (qu_below (below_one (o := (.cells #[.int .u64 (2 * f), .int .u64 (2 * f + 1)] 23)) BB.out) g3 (QO.out.alloc (.cells #[.int .u64 (2 * f), .int .u64 (2 * f + 1)] 23)) (by have := BB.out.size; simp; omega)); have Q3 := hidq q3; clear q3 g3 n3))
          go_roundw
          case rel => exact ⟨k + 1, by omega, by go_num, by rw [HT.out]; exact Q3.out, B3.out⟩
          case measure => simp [intOf]; omega
        · obtain rfl : k = K := by omega
          have hki : ¬ (k : Int) < k := by omega
          rw [HFK.out] at hq QO ⊢
          have UT := hidq hq.us
          obtain ⟨w5, hw5⟩ : ∃ w5, w5 = wr := ⟨_, rfl⟩
          subst hw5
          have B5 := BB
          have HVT := hidq (fun h0 => us_ptr hq.us h0)
          clear hq hb
          go_wp2
          generalize hM : T.length = M' at *
          have HM := hidq hM
          clear hM
          obtain ⟨Gn, hGn⟩ : ∃ Gn : Nat → List Int, ∀ k, Gn k = (T.take k).filter (fun n => decide (M.dnV h L n ≠ n)) := ⟨_, fun _ => rfl⟩
          obtain ⟨Pn, hPn⟩ : ∃ Pn : Nat → List (Int × Int), ∀ k, Pn k = (Gn k).map (fun n => (n, M.dnV h L n)) := ⟨_, fun _ => rfl⟩
          have HP0 := hidq (show Pn 0 = [] by rw [hPn, hGn]; rfl)
          have HPM := hidq (show Pn M' = (T.filter fun n => decide (M.dnV h L n ≠ n)).map (fun n => (n, M.dnV h L n)) by rw [hPn, hGn, List.take_of_length_le (by rw [HM.out]; exact Nat.le_refl _)])
          have HPs := hidq (fun k => show (Pn k).length ≤ 2048 by
            rw [hPn, List.length_map, hGn]
            have h1 := List.length_filter_le (fun n => decide (M.dnV h L n ≠ n)) (T.take k)
            rw [List.length_take] at h1
            have := HTl.out
            have := HM.out
            omega)
          have HPY := hidq (fun k (hk : k < T.length) (hx : M.dnV h L (T[k]?.getD 0) ≠ T[k]?.getD 0) => show Pn (k + 1) = Pn k ++ [(T[k]?.getD 0, M.dnV h L (T[k]?.getD 0))] by
            rw [hPn, hPn, hGn, hGn, M.dfX_take k hk, if_pos hx, List.map_append]; rfl)
          have HPN := hidq (fun k (hk : k < T.length) (hx : ¬ M.dnV h L (T[k]?.getD 0) ≠ T[k]?.getD 0) => show Pn (k + 1) = Pn k by
            rw [hPn, hPn, hGn, hGn, M.dfX_take k hk, if_neg hx, List.append_nil])
          clear hGn hPn
          go_loopw [48, 11] (fun i x wr => ∃ k : Nat, k ≤ M' ∧ i = .int .i64 k ∧ wr.ownsRow w5.heap.size 25 2 x (Pn k).length (elSub.cells (Pn k)) ∧ Below w5.heap.size w5 wr) (fun i _ _ => M' - (intOf i).toNat)
          case atStart => exact ⟨0, by omega, rfl, by rw [HP0.out]; exact World.ownsRow_nil _ _ _ _, Below.refl _ _⟩
          case round =>
            obtain ⟨k, hk, rfl, hown, hb⟩ := hrel
            have HO := hidq hown
            have HB := hidq hb
            by_cases hkn : k < M'
            · have hki : (k : Int) < M' := by omega
              obtain ⟨bT, oT, rfl⟩ := HVT.out (by omega)
              have hkl : k < T.length := by rw [HM.out]; exact hkn
              have yc := (UT.out.below hb).cellAt k hkl
              have hm : T[k]?.getD 0 ∈ T := by rw [List.getElem?_eq_getElem hkl]; exact List.getElem_mem hkl
              have hin := HTo.out _ hm
              have hky := (M.inT_iff.1 hin).1
              obtain ⟨hd0, hd1⟩ := HDk.out _ hin
              have hpy := HPY.out k hkl
              have hpn := HPN.out k hkl
              have hPs := HPs.out k
              have hM8 := HTl.out
              generalize T[k]?.getD 0 = y at *
              have hy0 : 0 ≤ y := by have := (M.ok_of hky).2.2.1; omega
              have hy1 : y ≤ 18446744073709551615 := by have := M.ok_lt hky; omega
              obtain ⟨d, hd⟩ : ∃ d, M.dnV h L y = d := ⟨_, rfl⟩
              obtain ⟨dE, hdE⟩ : ∃ dE, M.dnE h L y = dE := ⟨_, rfl⟩
              rw [hd] at hd0 hd1 hpy hpn
              have HHd := hidq hd
              have HHe := hidq hdE
              clear hown hb hkl hm hin hky hd hdE
              by_cases hne : d = y
              · have HPN' := hidq (hpn fun hx => hx hne)
                subst hne
                clear hpy hpn
                go_wp2_with (first | (go_at_call 50; refine (rstDown_any h L _ _ _ (UL.out.below (below_trans B1.out (below_trans B5.out HB.out))) hy0 hy1).mono ?_; rw [HHd.out, HHe.out]; rintro e w6 ⟨rfl, hb6⟩; have B6 := hidq (below_trans HB.out hb6); have O6 := hidq (own_kept HO.out hb6); clear hb6))
                go_roundw
                case rel => exact ⟨k + 1, by omega, by go_num, by rw [HPN'.out]; exact O6.out, B6.out⟩
                case measure => simp [intOf]; omega
              · have HPY' := hidq (hpy hne)
                have hnb : (d == y) = false := by rw [beq_eq_false_iff_ne]; exact hne
                clear hpy hpn
                go_wp2_with (first | (go_at_call 50; refine (rstDown_any h L _ _ _ (UL.out.below (below_trans B1.out (below_trans B5.out HB.out))) hy0 hy1).mono ?_; rw [HHd.out, HHe.out]; rintro e w6 ⟨rfl, hb6⟩; have B6 := hidq (below_trans HB.out hb6); have O6 := hidq (own_kept HO.out hb6); clear hb6) | (at_builtin; refine wpList_append_sl (E := elSub) rfl _ _ rfl w5.heap.size _ _ _ rfl (own_kept O6.out (below_one (o := (.cells #[.int .u64 y, .int .u64 d] 25)) (Below.refl w6.heap.size w6))) _ [(y, d)] rfl (Ss.oneq _ _ y d _ (by first | rfl | simp) ⟨hy0, hy1, hd0, hd1⟩) (by simp only [List.length_cons, List.length_nil]; omega) (by have := B6.out.size; simp; omega) ?_; intro v7 w7 hown7 hgrow7; have O7 := hidq hown7; have B7 := hidq ((below_one (o := (.cells #[.int .u64 y, .int .u64 d] 25)) B6.out).grown hgrow7 (by have := B6.out.size; simp; omega) (fun q hq => (O6.out.lt q hq).1)); clear hown7 hgrow7))
                go_roundw
                case rel => exact ⟨k + 1, by omega, by go_num, by rw [HPY'.out, List.length_append]; exact O7.out, B7.out⟩
                case measure => simp [intOf]; omega
            · obtain rfl : k = M' := by omega
              have hki : ¬ (k : Int) < k := by omega
              have hPs := HPs.out k
              rw [HPM.out] at hown hPs
              have HSR := hidq (show ((T.filter fun n => decide (M.dnV h L n ≠ n)).map (fun n => (n, M.dnV h L n))).Pairwise (fun s t => s.1 < t.1) by
                rw [List.pairwise_map]
                exact HTr.out.filter _)
              have HSF : ∀ x ∈ (T.filter fun n => decide (M.dnV h L n ≠ n)).map (fun n => (n, M.dnV h L n)), 0 ≤ x.1 ∧ x.1 ≤ 18446744073709551615 ∧ 0 ≤ x.2 ∧ x.2 ≤ 18446744073709551615 := fun x hx => by
                obtain ⟨n, hn, rfl⟩ := List.mem_map.1 hx
                have hin := HTo.out n (List.mem_filter.1 hn).1
                have hky := (M.inT_iff.1 hin).1
                have := (M.ok_of hky).2.2.1
                have := M.ok_lt hky
                obtain ⟨hd0, hd1⟩ := HDk.out _ hin
                exact ⟨by dsimp only; omega, by dsimp only; omega, hd0, hd1⟩
              generalize hPL : (T.filter fun n => decide (M.dnV h L n ≠ n)).map (fun n => (n, M.dnV h L n)) = PL at *
              have HPL := hidq hPL
              clear hPL
              have HS := hidq (own_form2 hown HSF)
              have HSL := hidq (show PL.length ≤ 160000 by omega)
              clear hown hb hPs
              go_wp2_with (first | (go_at_call 22; refine (rorder_any _ _ _ HS.out HSL.out HSR.out).mono ?_; rintro e w8 ⟨v8, rfl, s8, hb8⟩; have S8 := hidq s8; have B8 := hidq hb8; clear s8 hb8))
              go_ret2
              exact ⟨_, rfl, by rw [HPL.out]; exact S8.out, below_trans (below_trans (below_trans B1.out B5.out) HB.out) B8.out⟩
  · rw [M.setE_one hE] at FC
    rw [M.dfL_no hE, M.setE_one hE]
    clear hE
    go_enter Tryz.func20, Tryz.ntmps20
    go_wp2_with (first | (go_at_call 49; refine (FC.out _ hu).mono ?_; rintro e w1 ⟨v1, rfl, u1, hb1⟩; have B1 := hidq hb1; obtain ⟨a1, c1, rfl, -, hv1⟩ := us_view u1; have U1 := hidq u1; have V1 := hidq hv1; clear u1 hb1 hv1))
    go_ret2
    exact ⟨_, rfl, Sl.nil _ _, B1.out⟩
set_option maxRecDepth 100000 in
set_option maxHeartbeats 1000000 in
theorem rdbound_any (h many : Int) (w : World) (hm0 : -9223372036854775808 ≤ many) (hm1 : many ≤ 9223372036854775807) :
    Calls Tryz.prog 26 #[.int .i64 h, .int .i64 many] w fun e w' => e = .returned (.tuple #[.int .u64 (M.dbV h many), .int .i64 (M.bdE h many)]) ∧ Below w.heap.size w w' := by
  unfold M.dbV M.bdE
  cases hc : M.cntB h many with
  | false =>
    go_enter Tryz.func26, Tryz.ntmps26
    go_wp2_with (first | (go_at_call 57; refine (rmay10_any h _ _ hm0 hm1).mono ?_; rw [hc]; rintro e w1 ⟨rfl, hb1⟩))
    go_ret2
    exact ⟨rfl, hb1⟩
  | true =>
    obtain ⟨s1, s2, s3, s4, s5⟩ := M.cnt_of hc
    by_cases c3 : many = 0
    · rw [if_pos c3]
      subst c3
      go_enter Tryz.func26, Tryz.ntmps26
      go_wp2_with (first | (go_at_call 57; refine (rmay10_any h _ _ hm0 hm1).mono ?_; rw [hc]; rintro e w1 ⟨rfl, hb1⟩))
      go_ret2
      exact ⟨rfl, hb1⟩
    · rw [if_neg c3]
      have c4 : (many == 0) = false := by rw [beq_eq_false_iff_ne]; exact c3
      have hw1 : IntKind.i64.wrap (2 * many) = 2 * many := by rw [IntKind.wrap_i64]; omega
      have hw2 : IntKind.i64.wrap (2 * many - 1) = 2 * many - 1 := by rw [IntKind.wrap_i64]; omega
      have hw3 : IntKind.u64.wrap (2 * many - 1) = 2 * many - 1 := M.wrapu_id (by omega) (by omega)
      go_enter Tryz.func26, Tryz.ntmps26
      go_wp2_with (first | (go_at_call 57; refine (rmay10_any h _ _ hm0 hm1).mono ?_; rw [hc]; rintro e w1 ⟨rfl, hb1⟩))
      go_ret2
      exact ⟨rfl, hb1⟩
end Go.Proofs.YtmicgojojkkkhaaGreat
