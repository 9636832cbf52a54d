/-
  What the program's store.byTerms answers, where what is made of an atom alone can be made. Conditions: the slices hold terms, and subsets.
-/
import Derived.Test.YthmiekinjfaflaaGreatZI1
import Derived.Test.YthmiekinjfaflaaGreatZSQ6
import Derived.Test.YthmiekinjfaflaaGreatZSQ7
import Derived.Test.YthmiekinjfaflaaGreatZTR
namespace Go.Proofs.YthmiekinjfaflaaGreat
open Go.RowKit
theorem own_setL {W : World} {b b' : Nat} {e e' : TypeId} {z z' n n' cap g : Nat} {xs xs' : List Value} {v : Value} (h : W.ownsRow b e z v n xs) (hr : W.ownsRow b' e' z' (.slice (some ⟨g, 0, none⟩) n' cap) n' xs') (hne : e ≠ e') (o : Nat) (L : List Value) : (W.setCells g o L).ownsRow b e z v n xs := by
  rcases own_apart14 h hr hne with ha | ha
  · rcases h with ⟨h0, h | ⟨g', cap', cur, e1, -⟩⟩
    · exact ⟨h0, .inl h⟩
    · rw [e1] at ha; cases ha
  · rcases h with ⟨h0, h | ⟨g', cap', cur, e1, e2, e3, e4⟩⟩
    · exact ⟨h0, .inl h⟩
    · refine ⟨h0, .inr ⟨g', cap', cur, e1, e2, ?_, e4⟩⟩
      have hne : g' ≠ g := fun e => by
        subst e
        rw [e1] at ha
        exact ha rfl
      exact (heap_setL hne L o W).trans e3
set_option maxRecDepth 100000 in
theorem own_enT {W : World} {base g n cap : Nat} {D R : List M.En} {s : Int × Int} {u : M.Val} {q : Nat} (h : W.ownsRow base 57 11 (.slice (some ⟨g, 0, none⟩) n cap) n (elEnt.cells (D ++ (s, u) :: R))) (hD : D.length = q) (hq : q < n) : W.cell? ⟨g, q * 11 + 10, none⟩ = some (.int .i64 u.2.2.2.2) := by
  rw [h.cellAt (q * 11 + 10) (by omega)]
  exact elEnt.cells_get (D ++ (s, u) :: R) q 10 (s, u) (by subst hD; simp) (by decide)
set_option maxRecDepth 100000 in
set_option maxHeartbeats 16000000 in
theorem sbyterms_eq {A F L : List M.Tm} {h k p e : Int} {C : List (Int × Int)} {E : List M.En} {ps : List Int} (hE : M.mkR h k (M.ofT (0 : Nat)) C [(1, 0, 0)] = (E, F, 0)) (hF : F ≠ []) (hFl : F.length ≤ 60000) (hkd : ∀ j, 1 ≤ j → j < F.length → ∃ (c : Int) (a : Nat), M.at_ F j = (c, (a : Int), 0) ∧ a < j)
    (hpl : ∀ x ∈ E, ∃ j : Nat, x.2 = M.ofT j ∧ j < F.length) (hx : M.putR A F.tail A [p] = (L, ps, e)) (he : e = 0 → ps.length = F.length) (hA : M.Ok A) (hp : M.fitI p) (hC : C.length ≤ 1100) (hfit : ∀ x ∈ C, 0 ≤ x.1 ∧ x.1 ≤ 18446744073709551615 ∧ 0 ≤ x.2 ∧ x.2 ≤ 18446744073709551615) (hEl : E.length = C.length) {vl vc : Value} (w : World) (u : Ts w vl A) (us : Ss w vc C) :
    Calls Tryz.prog 16 #[vl, .int .i64 h, .int .i64 k, .int .i64 p, vc] w fun e' w' => ∃ v1 v2, e' = .returned (.tuple #[v1, v2, .int .i64 e]) ∧ Es w' v1 (if e = 0 then E.map (M.ren ps) else []) ∧ w'.ownsRow w.heap.size 39 3 v2 L.length (elTm.cells L) ∧ Below w.heap.size w w' := by
  have U0 := hidq u
  have S0 := hidq us
  obtain ⟨al, cl, rfl, -⟩ := u.form
  obtain ⟨ac, cc, rfl, -⟩ := us.form
  have HEn := hidq (fun (vl vc : Value) (W : World) (u : Ts W vl [(1, 0, 0)]) (us : Ss W vc C) => (show Calls Tryz.prog 17 #[vl, .int .i64 h, .int .i64 k, .agg #[.bool true, .bool false, .int .u64 0, .int .u64 0, .int .u64 0, .int .u64 0, .int .u64 0, .int .u64 0, .int .i64 0], vc] W fun e w' => ∃ v1 v2, e = .returned (.tuple #[v1, v2]) ∧ w'.ownsRow W.heap.size 57 11 v1 E.length (elEnt.cells E) ∧ EnOk E ∧ Ts w' v2 F ∧ Below W.heap.size W w' from sentries_eq hE hC hfit W u us))
  have HF1 := hidq (show M.fitT (1, 0, 0) by unfold M.fitT M.fitI; decide)
  have HX := hidq hx
  have HA := hidq hA
  have HFn := hidq hF
  have HFl := hidq hFl
  have HKd := hidq hkd
  have HP := hidq hp
  have HPl := hidq hpl
  have HN8 := hidq (show E.length ≤ 1100 by omega)
  clear u us hE hF hFl hkd hx hA hp hC hfit hpl hEl
  by_cases h0 : e = 0
  · subst h0
    rw [if_pos rfl]
    have HPs := hidq (he rfl)
    clear he
    generalize hn : E.length = n at *
    have HN := hidq hn
    clear hn
    go_enter Tryz.func16, Tryz.ntmps16
    go_wp2_with (first | (go_at_call 17; refine (HEn.out _ _ _ (Ts.one w (1, 0, 0) HF1.out) (S0.out.alloc (.cells #[.int .i64 1, .int .i64 0, .int .i64 0] 39))).mono ?_; rintro e1 w1 ⟨v1, v2, rfl, o1, eo1, t1, hb1⟩; obtain ⟨a1, c1, rfl, g1⟩ := own_formq o1; have hb2 := below_trans (below_one (o := (.cells #[.int .i64 1, .int .i64 0, .int .i64 0] 39)) (Below.refl w.heap.size w)) hb1; have EO1 := hidq eo1; have O1 := hidq (own_lowerq o1 (show w.heap.size ≤ (w.alloc (.cells #[.int .i64 1, .int .i64 0, .int .i64 0] 39)).heap.size by simp)); have G1 := hidq g1; have T1 := hidq t1; have U1 := hidq (U0.out.below hb2); have B1 := hidq hb2; clear o1 eo1 t1 hb1 g1 hb2) | (go_at_call 29; refine (sput_eq HX.out HA.out HFn.out HFl.out HKd.out HP.out _ U1.out T1.out).mono ?_; rintro e3 w3 ⟨v3, v4, rfl, o3, o4, hb3⟩; obtain ⟨a4, c4, rfl, g4⟩ := own_formq o4; have G4 := hidq g4; clear g4; have hz := B1.out.size; have O3 := hidq (own_lowerq o3 hz); have O4 := hidq (own_lowerq o4 hz); have E3 := hidq (own_kept O1.out hb3); have B3 := hidq (below_trans B1.out hb3); clear o3 o4 hb3 hz))
    go_loopw [42] (fun a wr => ∃ q : Nat, q ≤ n ∧ a = .int .i64 q ∧ wr.ownsRow w.heap.size 57 11 (.slice a1 n c1) n (elEnt.cells ((E.take q).map (M.ren ps) ++ E.drop q)) ∧ wr.ownsRow w.heap.size 39 3 v3 L.length (elTm.cells L) ∧ wr.ownsRow w.heap.size 3 1 (.slice a4 ps.length c4) ps.length (elInt.cells ps) ∧ Below w.heap.size w wr) (fun a _ => n - (intOf a).toNat)
    case atStart => exact ⟨0, by omega, rfl, by rw [List.take_zero]; exact E3.out, O3.out, O4.out, B3.out⟩
    case round =>
      obtain ⟨q, hq, rfl, he, ht, hp, hb⟩ := hrel
      have hN8 := HN8.out
      by_cases hlt : q < n
      · have hqi : (q : Int) < n := by omega
        obtain ⟨g, rfl, hgb⟩ := G1.out (by omega)
        have hql : q < E.length := by rw [HN.out]; exact hlt
        obtain ⟨x, hx⟩ : ∃ x, E[q]? = some x := ⟨_, List.getElem?_eq_getElem hql⟩
        obtain ⟨j, hj1, hj2⟩ := HPl.out x (List.mem_of_getElem? hx)
        have hjp : j < ps.length := by rw [HPs.out]; exact hj2
        obtain ⟨y, hy⟩ : ∃ y, ps[j]? = some y := ⟨_, List.getElem?_eq_getElem hjp⟩
        have hdrop : E.drop q = x :: E.drop (q + 1) := by
          obtain ⟨h2, rfl⟩ := List.getElem?_eq_some_iff.1 hx
          exact List.drop_eq_getElem_cons h2
        have htake : (E.take (q + 1)).map (M.ren ps) = (E.take q).map (M.ren ps) ++ [M.ren ps x] := by
          rw [List.take_add_one, hx, List.map_append]
          rfl
        obtain ⟨s, v⟩ := x
        obtain rfl : v = M.ofT j := hj1
        have hren : M.ren ps (s, M.ofT j) = (s, M.ofT y) := by
          unfold M.ren M.ofT
          dsimp only
          rw [Int.toNat_natCast, hy]
          rfl
        have hl : ((E.take q).map (M.ren ps)).length = q := by rw [List.length_map, List.length_take]; omega
        rw [hdrop] at he
        have k1 : wr.cell? ⟨g, q * 11 + 10, none⟩ = some (.int .i64 j) := own_enT he hl hlt
        have f1 := he.frozenAt (q * 11 + 10)
        obtain ⟨gp, rfl, -⟩ := G4.out (by omega)
        have k2 := own_int hp hy hjp
        have E5 := hidq (own_cells14 (he.stored (q * 11 + 10) (.int .i64 y)).1 (show _ = elEnt.cells ((E.take (q + 1)).map (M.ren ps) ++ E.drop (q + 1)) by
          rw [htake, hren, List.append_assoc]
          exact elEnt_T _ _ s (M.ofT j) y q hl))
        have O5 := hidq (own_setL ht he (by decide) (q * 11 + 10) [.int .i64 y])
        have P5 := hidq (own_setL hp he (by decide) (q * 11 + 10) [.int .i64 y])
        have B5 := hidq (show Below w.heap.size w (wr.setCell ⟨g, q * 11 + 10, none⟩ (.int .i64 y)) from hb.setCell (Nat.le_trans (by simp) hgb) _)
        clear hx hj2 hy hdrop htake hren hl he ht hp hb
        go_wp2
        go_roundw
        case rel => exact ⟨q + 1, by omega, by go_num, E5.out, O5.out, P5.out, B5.out⟩
        case measure => simp [intOf]; omega
      · obtain rfl : q = n := by omega
        have hqi : ¬ (q : Int) < q := by omega
        rw [List.take_of_length_le (by rw [HN.out]; exact Nat.le_refl _), List.drop_of_length_le (by rw [HN.out]; exact Nat.le_refl _), List.append_nil] at he
        have hok : ∀ z ∈ E.map (M.ren ps), elEnt.ok z := fun z hz => by
          obtain ⟨x, hx, rfl⟩ := List.mem_map.1 hz
          exact EO1.out x hx
        have EF := hidq (show Es wr (.slice a1 q c1) (E.map (M.ren ps)) from Sl.of_own (E := elEnt) (by exact he) hok)
        have OF := hidq ht
        have BF := hidq hb
        clear he ht hp hb hok
        go_wp2
        go_ret3
        exact ⟨_, _, rfl, EF.out, OF.out, BF.out⟩
  · have hb : (e == 0) = false := beq_eq_false_iff_ne.2 h0
    have hb2 : (e != 0) = true := by simpa using h0
    rw [if_neg h0]
    have HL : M.putR A F.tail A [p] = ([], [], 6) := M.putR_err (by rw [HX.out]; exact h0)
    rw [HX.out] at HL
    simp only [Prod.mk.injEq] at HL
    obtain ⟨rfl, rfl, rfl⟩ := HL
    clear he
    go_enter Tryz.func16, Tryz.ntmps16
    go_wp2_with (first | (go_at_call 17; refine (HEn.out _ _ _ (Ts.one w (1, 0, 0) HF1.out) (S0.out.alloc (.cells #[.int .i64 1, .int .i64 0, .int .i64 0] 39))).mono ?_; rintro e1 w1 ⟨v1, v2, rfl, o1, eo1, t1, hb1⟩; obtain ⟨a1, c1, rfl, g1⟩ := own_formq o1; have hb2 := below_trans (below_one (o := (.cells #[.int .i64 1, .int .i64 0, .int .i64 0] 39)) (Below.refl w.heap.size w)) hb1; have EO1 := hidq eo1; have O1 := hidq (own_lowerq o1 (show w.heap.size ≤ (w.alloc (.cells #[.int .i64 1, .int .i64 0, .int .i64 0] 39)).heap.size by simp)); have G1 := hidq g1; have T1 := hidq t1; have U1 := hidq (U0.out.below hb2); have B1 := hidq hb2; clear o1 eo1 t1 hb1 g1 hb2) | (go_at_call 29; refine (sput_eq HX.out HA.out HFn.out HFl.out HKd.out HP.out _ U1.out T1.out).mono ?_; rintro e3 w3 ⟨v3, v4, rfl, o3, o4, hb3⟩; obtain ⟨a4, c4, rfl, g4⟩ := own_formq o4; have G4 := hidq g4; clear g4; have hz := B1.out.size; have O3 := hidq (own_lowerq o3 hz); have O4 := hidq (own_lowerq o4 hz); have E3 := hidq (own_kept O1.out hb3); have B3 := hidq (below_trans B1.out hb3); clear o3 o4 hb3 hz))
    go_ret3
    exact ⟨_, _, rfl, Sl.nil _ _, World.ownsRow_nil _ _ _ _, B3.out⟩
end Go.Proofs.YthmiekinjfaflaaGreat
namespace Go.Proofs.YthmiekinjfaflaaGreat
namespace M
/-- of a bottom of depth t those that are useful, of the first tops above it -/
def e1 (h : Int) (t : Nat) : Nat → Nat
  | 0 => 0
  | f + 1 => e1 h t f + (if useV h (p2 f) (p2 (t : Nat) + 1) = true then 1 else 0)
def eA (h : Int) : Nat → Nat
  | 0 => 0
  | t + 1 => eA h t + e1 h (t + 1) (t + 1)
theorem e1_le (h : Int) (t : Nat) : ∀ f, e1 h t f ≤ f
  | 0 => Nat.le_refl _
  | f + 1 => by
    have := e1_le h t f
    unfold e1
    split <;> omega
theorem eA_le (h : Int) : ∀ t, t ≤ 32 → eA h t ≤ t * 32
  | 0, _ => by simp [eA]
  | t + 1, ht => by
    have := eA_le h t (by omega)
    have := e1_le h (t + 1) (t + 1)
    unfold eA
    rw [Nat.succ_mul]; omega
theorem eA_all : ∀ h : Fin 32, eA ((h.val + 1 : Nat) : Int) (h.val + 1) = cA ((h.val + 1 : Nat) : Int) (h.val + 1) (h.val + 1 + 1) := by decide +kernel
theorem eA_eq {m : Nat} (h1 : 1 ≤ m) (h2 : m ≤ 32) : eA (m : Int) m = cA (m : Int) m (m + 1) := by
  have := eA_all ⟨m - 1, by omega⟩
  dsimp only at this
  rwa [show m - 1 + 1 = m by omega] at this
theorem up_pw {m k : Nat} (_h1 : 1 ≤ m) (h2 : m ≤ 32) (hk : k ≤ m) : upV (m : Int) (p2 m) k = p2 k := by
  have hp := p2_pos (m : Int)
  have hd : dep (p2 m) = m := (dep_iff (p2 m) m (by omega) (by omega)).2 ⟨Int.le_refl _, by omega⟩
  have ho : okB (m : Int) (p2 m) = true := by unfold okB; exact decide_eq_true ⟨by omega, by omega, by omega, by omega⟩
  have hE : upE (m : Int) (p2 m) k = 0 := by unfold upE; rw [if_pos ho, if_pos ⟨by omega, by rw [hd]; omega⟩]
  unfold upV
  rw [if_pos hE, up_p2 (by omega)]
theorem oth_pw {m t : Nat} (h1 : 1 ≤ t) (h2 : t ≤ m) (h3 : m ≤ 32) : othV (m : Int) (p2 t) = p2 t + 1 := by
  obtain ⟨s, rfl⟩ : ∃ s, t = s + 1 := ⟨t - 1, by omega⟩
  have hp := p2_pos (s : Int)
  have he : p2 ((s + 1 : Nat) : Int) = 2 * p2 s := by rw [show ((s + 1 : Nat) : Int) = (s : Int) + 1 by omega]; exact p2_succ _ (by omega)
  have hm : p2 ((s + 1 : Nat) : Int) ≤ p2 (m : Int) := p2_mono (by omega)
  have ho : okB (m : Int) (p2 ((s + 1 : Nat) : Int)) = true := by unfold okB; exact decide_eq_true ⟨by omega, by omega, by omega, by have := p2_pos (m : Int); omega⟩
  have hE : othE (m : Int) (p2 ((s + 1 : Nat) : Int)) = 0 := by unfold othE; rw [if_pos ho, if_neg (by omega)]
  unfold othV
  rw [if_pos hE]
  unfold oth
  rw [if_pos (by omega)]
end M
end Go.Proofs.YthmiekinjfaflaaGreat
namespace Go.Proofs.YthmiekinjfaflaaGreat
open Go.RowKit
end Go.Proofs.YthmiekinjfaflaaGreat
