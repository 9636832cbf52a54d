/-
  What the document's Make of layer 14 answers at every input. Conditions: the slice holds terms, the value fits.
-/
import Derived.Test.YthmiekinjfaflaaGreatZLb4
import Derived.Test.YthmiekinjfaflaaGreatZSt2
import Derived.Test.YthmiekinjfaflaaGreatZSt8
namespace Go.Proofs.YthmiekinjfaflaaGreat
open Go.RowKit
theorem own_apart14 {W : World} {b b' : Nat} {e e' : TypeId} {z z' : Nat} {v v' : Value} {n n' : Nat} {xs xs' : List Value} (h : W.ownsRow b e z v n xs) (h' : W.ownsRow b' e' z' v' n' xs') (hne : e ≠ e') : v.ownBlock = none ∨ v.ownBlock ≠ v'.ownBlock := by
  rcases h.2 with ⟨rfl, _⟩ | ⟨g, cap, cur, rfl, _, hg, _⟩
  · exact .inl rfl
  · right
    intro he
    rcases h'.2 with ⟨rfl, _⟩ | ⟨g', cap', cur', rfl, _, hg', _⟩
    · cases he
    · have e1 : g = g' := by simpa [Value.ownBlock] using he
      subst e1
      rw [hg] at hg'
      simp only [Option.some.injEq, Obj.cells.injEq] at hg'
      exact hne hg'.2.1
set_option maxRecDepth 100000 in
theorem es_one (W : World) (g : Nat) (hg : g = W.heap.size) (x : M.En) (hx : elEnt.ok x) : Es (W.alloc (.cells #[.int .u64 x.1.1, .int .u64 x.1.2, .bool x.2.1, .bool x.2.2.1, .int .u64 (M.nu x.2.2.2.1.1), .int .u64 (M.nu x.2.2.2.1.2), .int .u64 (M.nu x.2.2.2.2.1.1.1), .int .u64 (M.nu x.2.2.2.2.1.1.2), .int .u64 (M.nu x.2.2.2.2.1.2.1), .int .u64 (M.nu x.2.2.2.2.1.2.2), .int .i64 x.2.2.2.2.2] 57)) (.slice (some ⟨g, 0, none⟩) 1 1) [x] := by
  subst hg
  exact Sl.of_own (base := 0) (e := 57) (n := 1) ⟨rfl, .inr ⟨W.heap.size, 1, _, rfl, Nat.zero_le _, heap_alloc_new W _, Nat.le_refl _, by unfold maxLen; omega, rfl, rfl⟩⟩ (fun z hz => by simp at hz; subst hz; exact hx)
theorem M.pm_small {h k i : Int} (h0 : 0 ≤ i) (hE : M.prsE h k i = 0) : (M.prsL h k i).length ≤ 1100 := by
  obtain ⟨q1, -, q3, q4⟩ := M.prs_length h0 hE
  have hb := M.pr_facts q3 q4
  have hm : h * (h + 1) ≤ 32 * 33 := Int.mul_le_mul q4 (by omega) (by omega) (by omega)
  have : M.pmV h k ≤ 1100 := by
    unfold M.pmV
    split
    · split
      · omega
      · split <;> omega
    · omega
  omega
/-- a value of nine cells, stored to a box -/
def set9 (W : World) (B : Nat) (x : M.Val) : World := (((((((((W.setCell ⟨B, 0, none⟩ (.bool x.1)).setCell ⟨B, 1, none⟩ (.bool x.2.1)).setCell ⟨B, 2, none⟩ (.int .u64 (M.nu x.2.2.1.1))).setCell ⟨B, 3, none⟩ (.int .u64 (M.nu x.2.2.1.2))).setCell ⟨B, 4, none⟩ (.int .u64 (M.nu x.2.2.2.1.1.1))).setCell ⟨B, 5, none⟩ (.int .u64 (M.nu x.2.2.2.1.1.2))).setCell ⟨B, 6, none⟩ (.int .u64 (M.nu x.2.2.2.1.2.1))).setCell ⟨B, 7, none⟩ (.int .u64 (M.nu x.2.2.2.1.2.2))).setCell ⟨B, 8, none⟩ (.int .i64 x.2.2.2.2))
theorem set9_box {W : World} {B : Nat} {v : M.Val} (h : Bx9 W B v) (x : M.Val) : Bx9 (set9 W B x) B x := h.set x
theorem set9_below {w W : World} {n B : Nat} (h : Below n w W) (hB : n ≤ B) (x : M.Val) : Below n w (set9 W B x) := below_set9 h hB _ _ _ _ _ _ _ _ _
theorem set9_heap (W : World) (B g : Nat) (x : M.Val) (hne : g ≠ B) : (set9 W B x).heap[g]? = W.heap[g]? := by
  have hs : ∀ (W : World) (j : Nat) (u : Value), (W.setCell ⟨B, j, none⟩ u).heap[g]? = W.heap[g]? := fun W j u => Below.heap_setCell W _ u g hne
  unfold set9
  rw [hs, hs, hs, hs, hs, hs, hs, hs, hs]
theorem set9_own {W : World} {base : Nat} {e : TypeId} {size n B : Nat} {v : Value} {xs : List Value} (h : W.ownsRow base e size v n xs) (x : M.Val) (hh : ∀ g cur t fr, W.heap[g]? = some (.cells cur t fr) → t = e → g ≠ B) : (set9 W B x).ownsRow base e size v n xs := by
  rcases h with ⟨h0, h | ⟨g, cap, cur, h1, h2, h3, h4⟩⟩
  · exact ⟨h0, .inl h⟩
  · refine ⟨h0, .inr ⟨g, cap, cur, h1, h2, ?_, h4⟩⟩
    have hne := hh g cur e _ h3 rfl
    exact (set9_heap W B g x hne).trans h3
set_option maxRecDepth 100000 in
set_option maxHeartbeats 4000000 in
theorem rmake_noE {A : List M.Tm} {h k : Int} {m : M.Val} {i : Int} (hE : ¬ M.prsE h k i = 0) (h0 : 0 ≤ i) (h1 : i ≤ 18446744073709551615) {vl : Value} (w : World) (_u : Ts w vl A) :
    Calls Tryz.prog 6 #[vl, .int .i64 h, .int .i64 k, (.agg #[.bool m.1, .bool m.2.1, .int .u64 (M.nu m.2.2.1.1), .int .u64 (M.nu m.2.2.1.2), .int .u64 (M.nu m.2.2.2.1.1.1), .int .u64 (M.nu m.2.2.2.1.1.2), .int .u64 (M.nu m.2.2.2.1.2.1), .int .u64 (M.nu m.2.2.2.1.2.2), .int .i64 m.2.2.2.2]), .int .u64 i] w fun e w' => e = .returned (.tuple #[.slice none 0 0, .slice none 0 0, .int .i64 1]) ∧ Below w.heap.size w w' := by
  have B0 := hidq (show Below w.heap.size w (w.alloc (.cells #[.bool m.1, .bool m.2.1, .int .u64 (M.nu m.2.2.1.1), .int .u64 (M.nu m.2.2.1.2), .int .u64 (M.nu m.2.2.2.1.1.1), .int .u64 (M.nu m.2.2.2.1.1.2), .int .u64 (M.nu m.2.2.2.1.2.1), .int .u64 (M.nu m.2.2.2.1.2.2), .int .i64 m.2.2.2.2] 29)) from below_one (Below.refl _ _))
  have SP := hidq (fun W => rspairs_any h k i W h0 h1)
  generalize M.prsE h k i = E at *
  have hEb : (E == 0) = false := by rw [beq_eq_false_iff_ne]; exact hE
  go_enter Tryz.func6, Tryz.ntmps6
  go_wp2_with (first | (go_at_call 19; refine (SP.out _).mono ?_; rintro e w1 ⟨v1, rfl, s1, hb1⟩; have B1 := hidq (below_trans B0.out hb1); clear hb1))
  go_ret3
  exact ⟨rfl, B1.out⟩
set_option maxRecDepth 100000 in
set_option maxHeartbeats 4000000 in
theorem rmake_noO {A : List M.Tm} {h k : Int} {m : M.Val} {i : Int} (hE : M.prsE h k i = 0) (ho : M.opn A m = false) (h0 : 0 ≤ i) (h1 : i ≤ 18446744073709551615) {vl : Value} (w : World) (u : Ts w vl A) :
    Calls Tryz.prog 6 #[vl, .int .i64 h, .int .i64 k, (.agg #[.bool m.1, .bool m.2.1, .int .u64 (M.nu m.2.2.1.1), .int .u64 (M.nu m.2.2.1.2), .int .u64 (M.nu m.2.2.2.1.1.1), .int .u64 (M.nu m.2.2.2.1.1.2), .int .u64 (M.nu m.2.2.2.1.2.1), .int .u64 (M.nu m.2.2.2.1.2.2), .int .i64 m.2.2.2.2]), .int .u64 i] w fun e w' => e = .returned (.tuple #[.slice none 0 0, .slice none 0 0, .int .i64 1]) ∧ Below w.heap.size w w' := by
  have M0 := hidq (Bx9.new w m)
  have U0 := hidq (u.alloc (.cells #[.bool m.1, .bool m.2.1, .int .u64 (M.nu m.2.2.1.1), .int .u64 (M.nu m.2.2.1.2), .int .u64 (M.nu m.2.2.2.1.1.1), .int .u64 (M.nu m.2.2.2.1.1.2), .int .u64 (M.nu m.2.2.2.1.2.1), .int .u64 (M.nu m.2.2.2.1.2.2), .int .i64 m.2.2.2.2] 29))
  have B0 := hidq (show Below w.heap.size w (w.alloc (.cells #[.bool m.1, .bool m.2.1, .int .u64 (M.nu m.2.2.1.1), .int .u64 (M.nu m.2.2.1.2), .int .u64 (M.nu m.2.2.2.1.1.1), .int .u64 (M.nu m.2.2.2.1.1.2), .int .u64 (M.nu m.2.2.2.1.2.1), .int .u64 (M.nu m.2.2.2.1.2.2), .int .i64 m.2.2.2.2] 29)) from below_one (Below.refl _ _))
  have SP := hidq (fun W => rspairs_any h k i W h0 h1)
  rw [hE] at SP
  have HO := hidq (fun W (u : Ts W vl A) => ropn_eq ho W u)
  clear u ho hE
  go_enter Tryz.func6, Tryz.ntmps6
  go_wp2_with (first | (go_at_call 19; refine (SP.out _).mono ?_; rintro e w1 ⟨v1, rfl, s1, hb1⟩; have B1 := hidq (below_trans B0.out hb1); have U1 := hidq (U0.out.below hb1); have cm1 := (M0.out.below hb1).cells; clear hb1) | (go_at_call 20; refine (HO.out _ U1.out).mono ?_; rintro e w2 ⟨rfl, hb2⟩; have B2 := hidq (below_trans B1.out hb2); clear hb2))
  go_ret3
  exact ⟨rfl, B2.out⟩
set_option maxRecDepth 100000 in
set_option maxHeartbeats 16000000 in
theorem rmake_yes {A : List M.Tm} {h k : Int} {m : M.Val} {i : Int} (hE : M.prsE h k i = 0) (ho : M.opn A m = true) {E : List M.En} {L : List M.Tm} {n : Int} (hx : M.mkR h k m (M.prsL h k i) A = (E, L, n)) (h0 : 0 ≤ i) (h1 : i ≤ 18446744073709551615) {vl : Value} (w : World) (u : Ts w vl A) :
    Calls Tryz.prog 6 #[vl, .int .i64 h, .int .i64 k, (.agg #[.bool m.1, .bool m.2.1, .int .u64 (M.nu m.2.2.1.1), .int .u64 (M.nu m.2.2.1.2), .int .u64 (M.nu m.2.2.2.1.1.1), .int .u64 (M.nu m.2.2.2.1.1.2), .int .u64 (M.nu m.2.2.2.1.2.1), .int .u64 (M.nu m.2.2.2.1.2.2), .int .i64 m.2.2.2.2]), .int .u64 i] w fun e w' => ∃ v1 v2, e = .returned (.tuple #[v1, v2, .int .i64 n]) ∧ Es w' v1 E ∧ w'.ownsRow w.heap.size 39 3 v2 L.length (elTm.cells L) ∧ Below w.heap.size w w' := by
  have M0 := hidq (Bx9.new w m)
  have U0 := hidq (u.alloc (.cells #[.bool m.1, .bool m.2.1, .int .u64 (M.nu m.2.2.1.1), .int .u64 (M.nu m.2.2.1.2), .int .u64 (M.nu m.2.2.2.1.1.1), .int .u64 (M.nu m.2.2.2.1.1.2), .int .u64 (M.nu m.2.2.2.1.2.1), .int .u64 (M.nu m.2.2.2.1.2.2), .int .i64 m.2.2.2.2] 29))
  have B0 := hidq (show Below w.heap.size w (w.alloc (.cells #[.bool m.1, .bool m.2.1, .int .u64 (M.nu m.2.2.1.1), .int .u64 (M.nu m.2.2.1.2), .int .u64 (M.nu m.2.2.2.1.1.1), .int .u64 (M.nu m.2.2.2.1.1.2), .int .u64 (M.nu m.2.2.2.1.2.1), .int .u64 (M.nu m.2.2.2.1.2.2), .int .i64 m.2.2.2.2] 29)) from below_one (Below.refl _ _))
  have SP := hidq (fun W => rspairs_any h k i W h0 h1)
  rw [hE] at SP
  obtain ⟨al, cl, rfl, -⟩ := u.form
  have HO := hidq (fun W (u : Ts W (.slice al A.length cl) A) => ropn_eq ho W u)
  have HOk := hidq (M.opn_iff.1 ho).1
  have HA := hidq (M.opn_iff.1 ho).1.1
  have HSm := hidq (M.pm_small h0 hE)
  have HSb := hidq (fun (x : Int × Int) (hx : x ∈ M.prsL h k i) => M.sub_fit14 (M.prs_sub h0 hE hx))
  have HX := hidq hx
  clear u ho hE hx
  generalize M.prsL h k i = C at *
  generalize hN : C.length = N at *
  have HN := hidq hN
  clear hN
  go_enter Tryz.func6, Tryz.ntmps6
  go_wp2_with (first | (go_at_call 19; refine (SP.out _).mono ?_; rintro e w1 ⟨v1, rfl, s1, hb1⟩; have S1 := hidq s1; obtain ⟨ap, cp, e1, kp, kM, vp⟩ := s1.form; rw [HN.out] at e1 kp; subst e1; have VP := hidq vp; have U1 := hidq (U0.out.below hb1); have M1 := hidq (M0.out.below hb1); have cm1 := M1.out.cells; have B1 := hidq (below_trans B0.out hb1); clear s1 vp hb1) | (go_at_call 20; refine (HO.out _ U1.out).mono ?_; rintro e w2 ⟨rfl, hb2⟩; have U2 := hidq (U1.out.below hb2); have S2 := hidq (S1.out.below hb2); have M2 := hidq (M1.out.below hb2); have B2 := hidq (below_trans B1.out hb2); have G2 := hidq (show w.heap.size + 1 ≤ w2.heap.size by have := M2.out.lt; omega); clear hb2 cm1) | (at_builtin; refine wpList_append_sl (E := elTm) rfl _ _ rfl (w.heap.size + 1) _ 0 [] rfl (World.ownsRow_nil _ _ _ _) _ A rfl U2.out (by have := HA.out; omega) G2.out ?_; intro v3 w3 hown3 hgrow3; have hb3 := (Below.refl w2.heap.size w2).grown hgrow3 (Nat.le_refl _) (fun q hq => by cases hq); have O3 := hidq hown3; have S3 := hidq (S2.out.below hb3); have M3 := hidq (M2.out.below hb3); have B3 := hidq (below_trans B2.out hb3); have G3 := hidq (show w.heap.size + 1 ≤ w3.heap.size by have := M3.out.lt; omega); clear hown3 hgrow3 hb3))
  obtain ⟨wz, hwz⟩ : ∃ wz, wz = w3 := ⟨_, rfl⟩
  subst hwz
  go_loopw [40, 15, 0] (fun a x y wr => ∃ (q : Nat) (EE : List M.En) (B : List M.Tm), q ≤ N ∧ a = .int .i64 q ∧ (EE.length = q ∧ M.mkR h k m C A = M.preE EE (M.mkR h k m (C.drop q) B) ∧ (∀ z ∈ EE, elEnt.ok z) ∧ M.Ok B) ∧ wr.ownsRow wz.heap.size 57 11 x EE.length (elEnt.cells EE) ∧ wr.ownsRow (w.heap.size + 1) 39 3 y B.length (elTm.cells B) ∧ Below wz.heap.size wz wr) (fun a _ _ _ => N - (intOf a).toNat)
  case atStart => exact ⟨0, [], A, by omega, rfl, ⟨rfl, by rw [M.preE_nil (M.mkR_err _)]; rfl, by simp, HOk.out⟩, World.ownsRow_nil _ _ _ _, by have := O3.out; rwa [Nat.zero_add, List.nil_append] at this, Below.refl _ _⟩
  case round =>
    obtain ⟨q, EE, B, hq, rfl, ⟨he1, he2, he3, he4⟩, hoe, hot, hb⟩ := hrel
    obtain ⟨ax, cx, rfl, -⟩ := own_formq hoe
    obtain ⟨ay, cy, rfl, -⟩ := own_formq hot
    have OE := hidq hoe
    have OT := hidq hot
    have BZ := hidq hb
    have HE1 := hidq he1
    have HE2 := hidq he2
    have HE3 := hidq he3
    have TB := hidq (ts_ofown hot he4)
    have MR := hidq (M3.out.below hb)
    have cmr := MR.out.cells
    have lmr := MR.out.lt
    have hN8 := HSm.out
    have HEl := hidq (show EE.length ≤ 1100 by omega)
    clear hoe hot he1 he2 he3 he4
    by_cases hqn : q < N
    · have hqi : (q : Int) < N := by omega
      obtain ⟨bF, oF, rfl⟩ := VP.out (by omega)
      obtain ⟨s, hs⟩ : ∃ s, C[q]? = some s := ⟨_, List.getElem?_eq_getElem (by rw [HN.out]; exact hqn)⟩
      obtain ⟨p1, p2⟩ := Ss.at (S3.out.below hb) hs
      obtain ⟨b1, b2, b3, b4⟩ := HSb.out s (List.mem_of_getElem? hs)
      have HD := hidq (M.drop_cons14 hs)
      obtain ⟨y, d⟩ := s
      dsimp only at p1 p2 b1 b2 b3 b4
      have SX := hidq (Bi.new wr 46 y d)
      obtain ⟨SXa, SXb⟩ := SX.out.facts
      obtain ⟨⟨x1, L1, n1⟩, hl⟩ : ∃ r, M.labA B h m y d = r := ⟨_, rfl⟩
      have HLb := hidq (fun W (u : Ts W (.slice ay B.length cy) B) => rlab_eq hl b1 b2 b3 b4 W u)
      have HFt := hidq (show elEnt.ok (((y, d) : Int × Int), x1) from ⟨b1, b2, b3, b4⟩)
      by_cases hJ : d = 0
      · subst hJ
        obtain ⟨⟨x2, L2, n2⟩, hk⟩ : ∃ r, M.keyA B h k m y 0 = r := ⟨_, rfl⟩
        have HKe := hidq (fun W (u : Ts W (.slice ay B.length cy) B) => rkey_eq hk b1 b2 b3 b4 W u)
        have HFt := hidq (show elEnt.ok (((y, 0) : Int × Int), x2) from ⟨b1, b2, b3, b4⟩)
        have HSt := hidq (show M.stpA B h k m (y, 0) = (x2, L2, n2) by unfold M.stpA; rw [if_pos rfl]; exact hk)
        have HOk2 := hidq (M.key_okL hk)
        clear hs b1 b2 b3 b4 hl hk hb
        go_upto_region 12 with (first | (go_at_call 21; refine (HLb.out _ (TB.out.alloc (.cells #[.int .u64 y, .int .u64 0] 46))).mono ?_; rintro e w4 ⟨v4, rfl, ho4, hb4⟩; have hb5 := below_one (o := (.cells #[.bool x1.1, .bool x1.2.1, .int .u64 (M.nu x1.2.2.1.1), .int .u64 (M.nu x1.2.2.1.2), .int .u64 (M.nu x1.2.2.2.1.1.1), .int .u64 (M.nu x1.2.2.2.1.1.2), .int .u64 (M.nu x1.2.2.2.1.2.1), .int .u64 (M.nu x1.2.2.2.1.2.2), .int .i64 x1.2.2.2.2] 29)) hb4; have Y5 := (MR.out.alloc (.cells #[.int .u64 y, .int .u64 0] 46)).below hb4; have cm5 := Y5.cells; have lm5 := Y5.lt; have Z5 := SX.out.below hb4; have cz5 := Z5.facts; have lz5 := Z5.lt; have Z5 := hidq (Z5.alloc (.cells #[.bool x1.1, .bool x1.2.1, .int .u64 (M.nu x1.2.2.1.1), .int .u64 (M.nu x1.2.2.1.2), .int .u64 (M.nu x1.2.2.2.1.1.1), .int .u64 (M.nu x1.2.2.2.1.1.2), .int .u64 (M.nu x1.2.2.2.1.2.1), .int .u64 (M.nu x1.2.2.2.1.2.2), .int .i64 x1.2.2.2.2] 29)); have X5 := hidq (Bx9.new w4 x1); have E5 := hidq (own_kept (own_kept OE.out (below_one (o := (.cells #[.int .u64 y, .int .u64 0] 46)) (Below.refl wr.heap.size wr))) hb5); have L5 := hidq (own_keptq ho4 (below_one (o := (.cells #[.bool x1.1, .bool x1.2.1, .int .u64 (M.nu x1.2.2.1.1), .int .u64 (M.nu x1.2.2.1.2), .int .u64 (M.nu x1.2.2.2.1.1.1), .int .u64 (M.nu x1.2.2.2.1.1.2), .int .u64 (M.nu x1.2.2.2.1.2.1), .int .u64 (M.nu x1.2.2.2.1.2.2), .int .i64 x1.2.2.2.2] 29)) (Below.refl w4.heap.size w4))); have T5 := hidq ((TB.out.alloc (.cells #[.int .u64 y, .int .u64 0] 46)).below hb5); have B5 := hidq (below_trans (below_one (o := (.cells #[.int .u64 y, .int .u64 0] 46)) BZ.out) hb5); have G5 := hidq (show wr.heap.size + 1 ≤ w4.heap.size by have := hb4.size; simpa using this); clear hb4 hb5 ho4 Y5 cmr lmr) | (go_at_call 22; refine (HKe.out _ T5.out).mono ?_; rintro e w6 ⟨v6, rfl, ho6, hb6⟩; have Z6 := Z5.out.below hb6; have cz6 := Z6.facts; have lz6 := Z6.lt; have Z6 := hidq Z6; have X6 := X5.out.below hb6; have cx6 := X6.cells; have fx6 := X6.frozen; have lx6 := X6.lt; have X6 := hidq X6; have E6 := hidq (own_kept E5.out hb6); have L6 := hidq ho6; have B6 := hidq (below_trans B5.out hb6); have G6 := hidq (show w4.heap.size + 1 ≤ w6.heap.size by have := X6.out.lt; omega); clear hb6 ho6 cm5 cz5 lm5 lz5))
        have X9 := set9_box X6.out x2
        have Z9 : Bi (set9 w6 w4.heap.size x2) wr.heap.size 46 y 0 := by
          have hne : wr.heap.size ≠ w4.heap.size := by have := G5.out; omega
          exact (set9_heap w6 w4.heap.size wr.heap.size x2 hne).trans Z6.out
        have B9 := set9_below B6.out (show wz.heap.size ≤ w4.heap.size by have := BZ.out.size; have := G5.out; omega) x2
        have E9 := set9_own E6.out x2 (fun g cur t fr hg ht hgb => by
          subst hgb
          have := X6.out
          unfold Bx9 at this
          rw [hg] at this
          simp only [Option.some.injEq, Obj.cells.injEq] at this
          exact absurd (ht.symm.trans this.2.1) (by decide))
        have L9 := own_set9 L6.out (show w4.heap.size < (w4.alloc (.cells #[.bool x1.1, .bool x1.2.1, .int .u64 (M.nu x1.2.2.1.1), .int .u64 (M.nu x1.2.2.1.2), .int .u64 (M.nu x1.2.2.2.1.1.1), .int .u64 (M.nu x1.2.2.2.1.1.2), .int .u64 (M.nu x1.2.2.2.1.2.1), .int .u64 (M.nu x1.2.2.2.1.2.2), .int .i64 x1.2.2.2.2] 29)).heap.size by simp) (.bool x2.1) (.bool x2.2.1) (.int .u64 (M.nu x2.2.2.1.1)) (.int .u64 (M.nu x2.2.2.1.2)) (.int .u64 (M.nu x2.2.2.2.1.1.1)) (.int .u64 (M.nu x2.2.2.2.1.1.2)) (.int .u64 (M.nu x2.2.2.2.1.2.1)) (.int .u64 (M.nu x2.2.2.2.1.2.2)) (.int .i64 x2.2.2.2.2)
        show Code.wp _ _ _ _ (set9 w6 w4.heap.size x2)
        change (set9 w6 w4.heap.size x2).ownsRow _ _ _ _ _ _ at L9
        generalize set9 w6 w4.heap.size x2 = w9 at *
        have cx9 := X9.cells
        have cz9 := Z9.facts
        have lx9 := X9.lt
        have lz9 := Z9.lt
        have E9 := hidq E9
        have L9 := hidq L9
        have B9 := hidq B9
        clear X6 Z6 cx6 cz6 fx6 lx6 lz6 E6 L6 B6 X9 Z9
        by_cases hn : n2 = 0
        · subst hn
          have HNx := hidq (show M.mkR h k m C A = M.preE (EE ++ [((y, 0), x2)]) (M.mkR h k m (C.drop (q + 1)) L2) by rw [HE2.out, HD.out, M.mkR_step HSt.out, M.preE_preE])
          go_wp2_with (first | (at_builtin; refine wpList_append_sl (E := elEnt) rfl _ _ rfl wz.heap.size _ _ EE rfl (own_kept E9.out (below_one (o := (.cells #[.int .u64 y, .int .u64 0, .bool x2.1, .bool x2.2.1, .int .u64 (M.nu x2.2.2.1.1), .int .u64 (M.nu x2.2.2.1.2), .int .u64 (M.nu x2.2.2.2.1.1.1), .int .u64 (M.nu x2.2.2.2.1.1.2), .int .u64 (M.nu x2.2.2.2.1.2.1), .int .u64 (M.nu x2.2.2.2.1.2.2), .int .i64 x2.2.2.2.2] 57)) (Below.refl w9.heap.size w9))) _ [((y, 0), x2)] rfl (es_one w9 _ (by first | rfl | simp) _ HFt.out) (by have := HEl.out; simp only [List.length_cons, List.length_nil]; omega) (by have h9 := B9.out.size; (try simp only [World.size_alloc] at h9); (try simp only [World.size_alloc]); omega) ?_; intro v8 w8 hown8 hgrow8; have L7 := own_keptq L9.out (below_one (o := (.cells #[.int .u64 y, .int .u64 0, .bool x2.1, .bool x2.2.1, .int .u64 (M.nu x2.2.2.1.1), .int .u64 (M.nu x2.2.2.1.2), .int .u64 (M.nu x2.2.2.2.1.1.1), .int .u64 (M.nu x2.2.2.2.1.1.2), .int .u64 (M.nu x2.2.2.2.1.2.1), .int .u64 (M.nu x2.2.2.2.1.2.2), .int .i64 x2.2.2.2.2] 57)) (Below.refl w9.heap.size w9)); have L8 := hidq (L7.kept hgrow8 (own_apart14 L7 (own_kept E9.out (below_one (o := (.cells #[.int .u64 y, .int .u64 0, .bool x2.1, .bool x2.2.1, .int .u64 (M.nu x2.2.2.1.1), .int .u64 (M.nu x2.2.2.1.2), .int .u64 (M.nu x2.2.2.2.1.1.1), .int .u64 (M.nu x2.2.2.2.1.1.2), .int .u64 (M.nu x2.2.2.2.1.2.1), .int .u64 (M.nu x2.2.2.2.1.2.2), .int .i64 x2.2.2.2.2] 57)) (Below.refl w9.heap.size w9))) (by decide))); have O8 := hidq hown8; have B8 := hidq ((below_one (o := (.cells #[.int .u64 y, .int .u64 0, .bool x2.1, .bool x2.2.1, .int .u64 (M.nu x2.2.2.1.1), .int .u64 (M.nu x2.2.2.1.2), .int .u64 (M.nu x2.2.2.2.1.1.1), .int .u64 (M.nu x2.2.2.2.1.1.2), .int .u64 (M.nu x2.2.2.2.1.2.1), .int .u64 (M.nu x2.2.2.2.1.2.2), .int .i64 x2.2.2.2.2] 57)) B9.out).grown hgrow8 (by have h9 := B9.out.size; (try simp only [World.size_alloc] at h9); (try simp only [World.size_alloc]); omega) (fun q hq => (E9.out.lt q hq).1)); clear hown8 hgrow8 L7))
          go_roundw
          case rel => exact ⟨q + 1, EE ++ [((y, 0), x2)], L2, by omega, by go_num, ⟨by rw [List.length_append, HE1.out]; rfl, HNx.out, fun z hz => by
            rcases List.mem_append.1 hz with hz | hz
            · exact HE3.out z hz
            · simp at hz; subst hz; exact HFt.out, HOk2.out⟩, by rw [List.length_append]; exact O8.out, own_lowerq L8.out (by have := G5.out; have := G3.out; have := BZ.out.size; simp; omega), B8.out⟩
          case measure => simp [intOf]; omega
        · have hnb : (n2 == 0) = false := beq_eq_false_iff_ne.2 hn
          have HNx := HX.out
          rw [HE2.out, HD.out, M.mkR_stop HSt.out hn, M.preE_bad hn] at HNx
          simp only [Prod.mk.injEq] at HNx
          obtain ⟨rfl, rfl, rfl⟩ := HNx
          go_wp2_with (fail)
          go_ret3
          exact ⟨_, _, rfl, Sl.nil _ _, World.ownsRow_nil _ _ _ _, below_trans B3.out B9.out⟩
      · have hJb : (d == 0) = false := beq_eq_false_iff_ne.2 hJ
        have HSt := hidq (show M.stpA B h k m (y, d) = (x1, L1, n1) by unfold M.stpA; rw [if_neg hJ]; exact hl)
        have HOk2 := hidq (M.lab_okL hl)
        clear hs b1 b2 b3 b4 hl hb
        by_cases hn : n1 = 0
        · subst hn
          have HNx := hidq (show M.mkR h k m C A = M.preE (EE ++ [((y, d), x1)]) (M.mkR h k m (C.drop (q + 1)) L1) by rw [HE2.out, HD.out, M.mkR_step HSt.out, M.preE_preE])
          go_wp2_with (first | (go_at_call 21; refine (HLb.out _ (TB.out.alloc (.cells #[.int .u64 y, .int .u64 d] 46))).mono ?_; rintro e w4 ⟨v4, rfl, ho4, hb4⟩; have hb5 := below_one (o := (.cells #[.bool x1.1, .bool x1.2.1, .int .u64 (M.nu x1.2.2.1.1), .int .u64 (M.nu x1.2.2.1.2), .int .u64 (M.nu x1.2.2.2.1.1.1), .int .u64 (M.nu x1.2.2.2.1.1.2), .int .u64 (M.nu x1.2.2.2.1.2.1), .int .u64 (M.nu x1.2.2.2.1.2.2), .int .i64 x1.2.2.2.2] 29)) hb4; have Y5 := (MR.out.alloc (.cells #[.int .u64 y, .int .u64 d] 46)).below hb4; have cm5 := Y5.cells; have lm5 := Y5.lt; have Z5 := SX.out.below hb4; have cz5 := Z5.facts; have lz5 := Z5.lt; have Z5 := hidq (Z5.alloc (.cells #[.bool x1.1, .bool x1.2.1, .int .u64 (M.nu x1.2.2.1.1), .int .u64 (M.nu x1.2.2.1.2), .int .u64 (M.nu x1.2.2.2.1.1.1), .int .u64 (M.nu x1.2.2.2.1.1.2), .int .u64 (M.nu x1.2.2.2.1.2.1), .int .u64 (M.nu x1.2.2.2.1.2.2), .int .i64 x1.2.2.2.2] 29)); have X5 := hidq (Bx9.new w4 x1); have E5 := hidq (own_kept (own_kept OE.out (below_one (o := (.cells #[.int .u64 y, .int .u64 d] 46)) (Below.refl wr.heap.size wr))) hb5); have L5 := hidq (own_keptq ho4 (below_one (o := (.cells #[.bool x1.1, .bool x1.2.1, .int .u64 (M.nu x1.2.2.1.1), .int .u64 (M.nu x1.2.2.1.2), .int .u64 (M.nu x1.2.2.2.1.1.1), .int .u64 (M.nu x1.2.2.2.1.1.2), .int .u64 (M.nu x1.2.2.2.1.2.1), .int .u64 (M.nu x1.2.2.2.1.2.2), .int .i64 x1.2.2.2.2] 29)) (Below.refl w4.heap.size w4))); have T5 := hidq ((TB.out.alloc (.cells #[.int .u64 y, .int .u64 d] 46)).below hb5); have B5 := hidq (below_trans (below_one (o := (.cells #[.int .u64 y, .int .u64 d] 46)) BZ.out) hb5); have G5 := hidq (show wr.heap.size + 1 ≤ w4.heap.size by have := hb4.size; simpa using this); clear hb4 hb5 ho4 Y5 cmr lmr) | (at_builtin; refine wpList_append_sl (E := elEnt) rfl _ _ rfl wz.heap.size _ _ EE rfl (own_kept E5.out (below_one (o := (.cells #[.int .u64 y, .int .u64 d, .bool x1.1, .bool x1.2.1, .int .u64 (M.nu x1.2.2.1.1), .int .u64 (M.nu x1.2.2.1.2), .int .u64 (M.nu x1.2.2.2.1.1.1), .int .u64 (M.nu x1.2.2.2.1.1.2), .int .u64 (M.nu x1.2.2.2.1.2.1), .int .u64 (M.nu x1.2.2.2.1.2.2), .int .i64 x1.2.2.2.2] 57)) (Below.refl (w4.alloc (.cells #[.bool x1.1, .bool x1.2.1, .int .u64 (M.nu x1.2.2.1.1), .int .u64 (M.nu x1.2.2.1.2), .int .u64 (M.nu x1.2.2.2.1.1.1), .int .u64 (M.nu x1.2.2.2.1.1.2), .int .u64 (M.nu x1.2.2.2.1.2.1), .int .u64 (M.nu x1.2.2.2.1.2.2), .int .i64 x1.2.2.2.2] 29)).heap.size (w4.alloc (.cells #[.bool x1.1, .bool x1.2.1, .int .u64 (M.nu x1.2.2.1.1), .int .u64 (M.nu x1.2.2.1.2), .int .u64 (M.nu x1.2.2.2.1.1.1), .int .u64 (M.nu x1.2.2.2.1.1.2), .int .u64 (M.nu x1.2.2.2.1.2.1), .int .u64 (M.nu x1.2.2.2.1.2.2), .int .i64 x1.2.2.2.2] 29))))) _ [((y, d), x1)] rfl (es_one (w4.alloc (.cells #[.bool x1.1, .bool x1.2.1, .int .u64 (M.nu x1.2.2.1.1), .int .u64 (M.nu x1.2.2.1.2), .int .u64 (M.nu x1.2.2.2.1.1.1), .int .u64 (M.nu x1.2.2.2.1.1.2), .int .u64 (M.nu x1.2.2.2.1.2.1), .int .u64 (M.nu x1.2.2.2.1.2.2), .int .i64 x1.2.2.2.2] 29)) _ (by first | rfl | simp) _ HFt.out) (by have := HEl.out; simp only [List.length_cons, List.length_nil]; omega) (by have h9 := B5.out.size; (try simp only [World.size_alloc] at h9); (try simp only [World.size_alloc]); omega) ?_; intro v8 w8 hown8 hgrow8; have L7 := own_keptq L5.out (below_one (o := (.cells #[.int .u64 y, .int .u64 d, .bool x1.1, .bool x1.2.1, .int .u64 (M.nu x1.2.2.1.1), .int .u64 (M.nu x1.2.2.1.2), .int .u64 (M.nu x1.2.2.2.1.1.1), .int .u64 (M.nu x1.2.2.2.1.1.2), .int .u64 (M.nu x1.2.2.2.1.2.1), .int .u64 (M.nu x1.2.2.2.1.2.2), .int .i64 x1.2.2.2.2] 57)) (Below.refl (w4.alloc (.cells #[.bool x1.1, .bool x1.2.1, .int .u64 (M.nu x1.2.2.1.1), .int .u64 (M.nu x1.2.2.1.2), .int .u64 (M.nu x1.2.2.2.1.1.1), .int .u64 (M.nu x1.2.2.2.1.1.2), .int .u64 (M.nu x1.2.2.2.1.2.1), .int .u64 (M.nu x1.2.2.2.1.2.2), .int .i64 x1.2.2.2.2] 29)).heap.size (w4.alloc (.cells #[.bool x1.1, .bool x1.2.1, .int .u64 (M.nu x1.2.2.1.1), .int .u64 (M.nu x1.2.2.1.2), .int .u64 (M.nu x1.2.2.2.1.1.1), .int .u64 (M.nu x1.2.2.2.1.1.2), .int .u64 (M.nu x1.2.2.2.1.2.1), .int .u64 (M.nu x1.2.2.2.1.2.2), .int .i64 x1.2.2.2.2] 29)))); have L8 := hidq (L7.kept hgrow8 (own_apart14 L7 (own_kept E5.out (below_one (o := (.cells #[.int .u64 y, .int .u64 d, .bool x1.1, .bool x1.2.1, .int .u64 (M.nu x1.2.2.1.1), .int .u64 (M.nu x1.2.2.1.2), .int .u64 (M.nu x1.2.2.2.1.1.1), .int .u64 (M.nu x1.2.2.2.1.1.2), .int .u64 (M.nu x1.2.2.2.1.2.1), .int .u64 (M.nu x1.2.2.2.1.2.2), .int .i64 x1.2.2.2.2] 57)) (Below.refl (w4.alloc (.cells #[.bool x1.1, .bool x1.2.1, .int .u64 (M.nu x1.2.2.1.1), .int .u64 (M.nu x1.2.2.1.2), .int .u64 (M.nu x1.2.2.2.1.1.1), .int .u64 (M.nu x1.2.2.2.1.1.2), .int .u64 (M.nu x1.2.2.2.1.2.1), .int .u64 (M.nu x1.2.2.2.1.2.2), .int .i64 x1.2.2.2.2] 29)).heap.size (w4.alloc (.cells #[.bool x1.1, .bool x1.2.1, .int .u64 (M.nu x1.2.2.1.1), .int .u64 (M.nu x1.2.2.1.2), .int .u64 (M.nu x1.2.2.2.1.1.1), .int .u64 (M.nu x1.2.2.2.1.1.2), .int .u64 (M.nu x1.2.2.2.1.2.1), .int .u64 (M.nu x1.2.2.2.1.2.2), .int .i64 x1.2.2.2.2] 29))))) (by decide))); have O8 := hidq hown8; have B8 := hidq ((below_one (o := (.cells #[.int .u64 y, .int .u64 d, .bool x1.1, .bool x1.2.1, .int .u64 (M.nu x1.2.2.1.1), .int .u64 (M.nu x1.2.2.1.2), .int .u64 (M.nu x1.2.2.2.1.1.1), .int .u64 (M.nu x1.2.2.2.1.1.2), .int .u64 (M.nu x1.2.2.2.1.2.1), .int .u64 (M.nu x1.2.2.2.1.2.2), .int .i64 x1.2.2.2.2] 57)) B5.out).grown hgrow8 (by have h9 := B5.out.size; (try simp only [World.size_alloc] at h9); (try simp only [World.size_alloc]); omega) (fun q hq => (E5.out.lt q hq).1)); clear hown8 hgrow8 L7))
          go_roundw
          case rel => exact ⟨q + 1, EE ++ [((y, d), x1)], L1, by omega, by go_num, ⟨by rw [List.length_append, HE1.out]; rfl, HNx.out, fun z hz => by
            rcases List.mem_append.1 hz with hz | hz
            · exact HE3.out z hz
            · simp at hz; subst hz; exact HFt.out, HOk2.out⟩, by rw [List.length_append]; exact O8.out, own_lowerq L8.out (by have := G3.out; have := BZ.out.size; simp; omega), B8.out⟩
          case measure => simp [intOf]; omega
        · have hnb : (n1 == 0) = false := beq_eq_false_iff_ne.2 hn
          have HNx := HX.out
          rw [HE2.out, HD.out, M.mkR_stop HSt.out hn, M.preE_bad hn] at HNx
          simp only [Prod.mk.injEq] at HNx
          obtain ⟨rfl, rfl, rfl⟩ := HNx
          go_wp2_with (first | (go_at_call 21; refine (HLb.out _ (TB.out.alloc (.cells #[.int .u64 y, .int .u64 d] 46))).mono ?_; rintro e w4 ⟨v4, rfl, ho4, hb4⟩; have hb5 := below_one (o := (.cells #[.bool x1.1, .bool x1.2.1, .int .u64 (M.nu x1.2.2.1.1), .int .u64 (M.nu x1.2.2.1.2), .int .u64 (M.nu x1.2.2.2.1.1.1), .int .u64 (M.nu x1.2.2.2.1.1.2), .int .u64 (M.nu x1.2.2.2.1.2.1), .int .u64 (M.nu x1.2.2.2.1.2.2), .int .i64 x1.2.2.2.2] 29)) hb4; have Y5 := (MR.out.alloc (.cells #[.int .u64 y, .int .u64 d] 46)).below hb4; have cm5 := Y5.cells; have lm5 := Y5.lt; have Z5 := SX.out.below hb4; have cz5 := Z5.facts; have lz5 := Z5.lt; have Z5 := hidq (Z5.alloc (.cells #[.bool x1.1, .bool x1.2.1, .int .u64 (M.nu x1.2.2.1.1), .int .u64 (M.nu x1.2.2.1.2), .int .u64 (M.nu x1.2.2.2.1.1.1), .int .u64 (M.nu x1.2.2.2.1.1.2), .int .u64 (M.nu x1.2.2.2.1.2.1), .int .u64 (M.nu x1.2.2.2.1.2.2), .int .i64 x1.2.2.2.2] 29)); have X5 := hidq (Bx9.new w4 x1); have E5 := hidq (own_kept (own_kept OE.out (below_one (o := (.cells #[.int .u64 y, .int .u64 d] 46)) (Below.refl wr.heap.size wr))) hb5); have L5 := hidq (own_keptq ho4 (below_one (o := (.cells #[.bool x1.1, .bool x1.2.1, .int .u64 (M.nu x1.2.2.1.1), .int .u64 (M.nu x1.2.2.1.2), .int .u64 (M.nu x1.2.2.2.1.1.1), .int .u64 (M.nu x1.2.2.2.1.1.2), .int .u64 (M.nu x1.2.2.2.1.2.1), .int .u64 (M.nu x1.2.2.2.1.2.2), .int .i64 x1.2.2.2.2] 29)) (Below.refl w4.heap.size w4))); have T5 := hidq ((TB.out.alloc (.cells #[.int .u64 y, .int .u64 d] 46)).below hb5); have B5 := hidq (below_trans (below_one (o := (.cells #[.int .u64 y, .int .u64 d] 46)) BZ.out) hb5); have G5 := hidq (show wr.heap.size + 1 ≤ w4.heap.size by have := hb4.size; simpa using this); clear hb4 hb5 ho4 Y5 cmr lmr))
          go_ret3
          exact ⟨_, _, rfl, Sl.nil _ _, World.ownsRow_nil _ _ _ _, below_trans B3.out B5.out⟩
    · obtain rfl : q = N := by omega
      have hqi : ¬ (q : Int) < q := by omega
      have HNx := HX.out
      rw [HE2.out, List.drop_of_length_le (by rw [HN.out]; exact Nat.le_refl _), M.mkR_nil, M.preE_end] at HNx
      simp only [Prod.mk.injEq] at HNx
      obtain ⟨rfl, rfl, rfl⟩ := HNx
      clear hb
      go_wp2
      go_ret3
      exact ⟨_, _, rfl, Sl.of_own (E := elEnt) OE.out HE3.out, own_lowerq OT.out (by omega), below_trans B3.out BZ.out⟩
set_option maxRecDepth 100000 in
theorem rmake_eq {A : List M.Tm} {h k : Int} {m : M.Val} {i : Int} {E : List M.En} {L : List M.Tm} {n : Int} (hx : M.makA A h k m i = (E, L, n)) (h0 : 0 ≤ i) (h1 : i ≤ 18446744073709551615) {vl : Value} (w : World) (u : Ts w vl A) :
    Calls Tryz.prog 6 #[vl, .int .i64 h, .int .i64 k, (.agg #[.bool m.1, .bool m.2.1, .int .u64 (M.nu m.2.2.1.1), .int .u64 (M.nu m.2.2.1.2), .int .u64 (M.nu m.2.2.2.1.1.1), .int .u64 (M.nu m.2.2.2.1.1.2), .int .u64 (M.nu m.2.2.2.1.2.1), .int .u64 (M.nu m.2.2.2.1.2.2), .int .i64 m.2.2.2.2]), .int .u64 i] w fun e w' => ∃ v1 v2, e = .returned (.tuple #[v1, v2, .int .i64 n]) ∧ Es w' v1 E ∧ w'.ownsRow w.heap.size 39 3 v2 L.length (elTm.cells L) ∧ Below w.heap.size w w' := by
  unfold M.makA at hx
  by_cases hE : M.prsE h k i = 0
  · cases ho : M.opn A m with
    | true =>
      rw [if_pos (by rw [ho, decide_eq_true hE]; rfl)] at hx
      exact rmake_yes hE ho hx h0 h1 w u
    | false =>
      rw [if_neg (by rw [ho, Bool.and_false]; decide)] at hx
      simp only [Prod.mk.injEq] at hx
      obtain ⟨rfl, rfl, rfl⟩ := hx
      refine (rmake_noO hE ho h0 h1 w u).mono ?_
      rintro e w' ⟨rfl, hb⟩
      exact ⟨_, _, rfl, Sl.nil _ _, World.ownsRow_nil _ _ _ _, hb⟩
  · rw [if_neg (by rw [decide_eq_false hE, Bool.false_and]; decide)] at hx
    simp only [Prod.mk.injEq] at hx
    obtain ⟨rfl, rfl, rfl⟩ := hx
    refine (rmake_noE hE h0 h1 w u).mono ?_
    rintro e w' ⟨rfl, hb⟩
    exact ⟨_, _, rfl, Sl.nil _ _, World.ownsRow_nil _ _ _ _, hb⟩
end Go.Proofs.YthmiekinjfaflaaGreat
