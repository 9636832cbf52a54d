/-
  What mindOf and tells come to. Conditions: each theorem's own premises.
-/
import Derived.Test.YthkkclhjpgkhaaaY1
namespace Go.Proofs.Ythkkclhjpgkhaaa
open Go.RowKit
theorem Try.infoBoolz : (Try.prog.info? 4).map (fun i => (i.zero, i.size, i.bytes)) = some (some (.bool false), 1, 1) := by kernel_rfl
theorem M.row_none (n : Nat) : M.rowB (fun _ => false) n = M.rowB (fun j => decide ((j : Int) ∈ ([] : List Int))) n := M.rowB_congr fun j _ => by simp
set_option maxRecDepth 100000 in
set_option maxHeartbeats 4000000 in
theorem mindOf_any (n : Nat) (A : List M.Tm) (L : List Int) (v1 v2 : Value) (w : World) (u1 : Ts w v1 A) (u2 : Is w v2 L) (hA : A.length = n) (hn : n ≤ 65536) (hL : ∀ x ∈ L, 0 ≤ x ∧ x < (n : Int)) :
    Calls Try.prog 26 #[v1, v2] w fun e w' => ∃ B, e = .returned (.pointer (some ⟨B, 0, none⟩)) ∧ Mind w' (fun i => w.heap.size ≤ i) w.heap.size B v1 n (M.lrn [] L) ∧ Below w.heap.size w w' := by
  obtain ⟨a1, c1, rfl, hp1, hp2, hp4⟩ := u1.form
  have U2 := hidq u2
  have HL := hidq hL
  rw [hA] at *
  clear hp4 u1 u2 hL
  obtain ⟨i0, hi, hz0, hz1, hz2⟩ := info_partsq Try.infoBoolz
  go_enter Try.func26, Try.ntmps26
  go_wp2_with (first | (at_make; refine wpList_make_full _ rfl _ _ 37 rfl w.heap.size 4 i0 (.bool false) 1 Try.underlying37 hi hz0 hz1 _ _ _ _ n rfl rfl (by first | rfl | omega) (by first | rfl | omega) ?b2 ?b3 ?b4 ?_))
  case b2 => (try rw [hz2]); omega
  case b3 => unfold maxLen; omega
  intro w2 hown hgrow
  rw [elBool_zeros, M.row_none] at hown
  have hB2 : Below w.heap.size w w2 := (Below.refl _ _).grown hgrow (Nat.le_refl _) (fun k hk => by cases hk)
  have hg2 : w.heap.size < w2.heap.size := (hown.lt _ rfl).2
  have hMd : Mind (w2.alloc (.cells #[.slice a1 n c1, .slice (some ⟨w.heap.size, 0, none⟩) n n, .slice none 0 0] 52)) (fun i => w.heap.size ≤ i) w.heap.size w2.heap.size (.slice a1 n c1) n [] :=
    ⟨w.heap.size, .slice none 0 0, Bxs.new _ _ _, hown.alloc _, World.ownsRow_nil _ _ _ _, by omega, Nat.le_refl _, fun k hk => by cases hk⟩
  have HMD := hidq hMd
  have HB3 := hidq (below_one (o := .cells #[.slice a1 n c1, .slice (some ⟨w.heap.size, 0, none⟩) n n, .slice none 0 0] 52) hB2)
  clear hMd hB2 hown hgrow
  go_wp2_with (first | (go_at_call 39; refine (learn_any (fun i => w.heap.size ≤ i) w.heap.size w2.heap.size _ n [] L _ _ HMD.out (fun i hi => by simp at hi; omega) (by simp; omega) hn (M.Gd.nil n) HL.out (fun X hX => U2.out.below (HB3.out.trans (hX.below (fun _ h => h) (by simp; omega))))).mono ?_; rintro r w3 ⟨rfl, hm3, ho3⟩; have M3 := hidq hm3; have B4 := hidq (HB3.out.trans (ho3.below (fun _ h => h) (by simp; omega))); clear hm3 ho3))
  go_ret
  exact ⟨_, rfl, M3.out, B4.out⟩
set_option maxRecDepth 100000 in
set_option maxHeartbeats 4000000 in
theorem tells_any (A : List M.Tm) (hA : M.Ok A) (T : Nat → Prop) (s B : Nat) (vt : Value) (n : Nat) (D : List Int) (k : Nat) (w : World) (hM : Mind w T s B vt n D) (u : Ts w vt A) (hn : A.length = n) (hk : k < n) :
    Calls Try.prog 34 #[.pointer (some ⟨B, 0, none⟩), .int .i64 k] w fun e w' => ∃ v', e = .returned v' ∧ w'.ownsRow w.heap.size 3 1 v' (M.tell A D k).length (elInt.cells (M.tell A D k)) ∧ Below w.heap.size w w' := by
  obtain ⟨at1, ct, rfl, hp1, hp2, hp4⟩ := u.form
  obtain ⟨bt, ot, rfl⟩ := hp4 (by omega)
  have hkA : k < A.length := by omega
  have hl := hA.1
  obtain ⟨x1, x2, x3⟩ := Ts.cell u hkA
  have hm := (hA.2 k hkA).1
  obtain ⟨g, vo, h1, h2, h3, tB, tg, tO⟩ := hM
  have HTE := hidq (@M.tell_no A D k)
  have HTO := hidq (@M.tell_one A D k)
  have HTT := hidq (@M.tell_two A D k)
  obtain ⟨E, hE⟩ : ∃ E, M.tell A D k = E := ⟨_, rfl⟩
  rw [hE] at HTE HTO HTT ⊢
  clear hE hA u hp4
  obtain ⟨⟨tk, ta, tb⟩, ht⟩ : ∃ t, M.at_ A k = t := ⟨_, rfl⟩
  rw [ht] at x1 x2 x3 hm HTE HTO HTT
  clear ht
  dsimp only at x1 x2 x3 HTE HTO HTT
  rw [hn] at *
  have q0 := h1.cell 0
  have q1 := h1.cell 1
  have HK := hidq (fun (p : Nat) (hp : p < n) => ownB_cell h2 hp)
  have lB := h1.lt
  have lg := (h2.lt g rfl).2
  have hki : (k : Int) < n := by omega
  have k0 : (0 : Int) ≤ k := by omega
  have HFK := hidq (show M.fitI (k : Int) from ⟨by omega, by omega⟩)
  have T1 := hidq trivial
  have H1 := hidq h1
  have H2 := hidq h2
  clear h1 h2 h3 tB tg tO hn
  rcases M.may_kind hm with ⟨k1, k2, k3, k4⟩ | ⟨k1, k2, k3, k4⟩ | ⟨k1, k2, k3, k4, k5⟩
  · dsimp only at k1 k4
    clear hm
    subst k1
    subst k4
    have e : E = [] := HTE.out (.inl rfl)
    subst e
    go_enter Try.func34, Try.ntmps34
    go_wp2
    go_quiet (fail)
    go_wp2
    go_ret
    exact ⟨_, rfl, World.ownsRow_nil _ _ _ _, below_dq (below_one (Below.refl _ _)) _⟩
  · dsimp only at k1 k2 k3 k4
    obtain ⟨a, ha⟩ : ∃ a : Nat, ta = a := ⟨ta.toNat, by omega⟩
    subst ha
    subst k4
    have han : a < n := by omega
    have hai : (a : Int) < n := by omega
    have c1 := HK.out a han
    clear hm
    by_cases hd : (a : Int) ∈ D
    · rw [decide_eq_true hd] at c1
      have e : E = [(k : Int)] := HTO.out (by rcases k1 with rfl | rfl | rfl <;> decide) hd (by rcases k1 with rfl | rfl | rfl <;> decide)
      subst e
      clear hd
      rcases k1 with rfl | rfl | rfl
      all_goals go_enter Try.func34, Try.ntmps34
      all_goals go_wp2
      all_goals go_quiet (fail)
      all_goals go_wp2
      all_goals go_ret
      all_goals exact ⟨_, rfl, own_lit1 _ w.heap.size _ (by simp) (by simp) _, below_one (below_dq (below_one (Below.refl _ _)) _)⟩
    · rw [decide_eq_false hd] at c1
      have e : E = [] := HTE.out (.inr hd)
      subst e
      clear hd
      rcases k1 with rfl | rfl | rfl
      all_goals go_enter Try.func34, Try.ntmps34
      all_goals go_wp2
      all_goals go_quiet (fail)
      all_goals go_wp2
      all_goals go_ret
      all_goals exact ⟨_, rfl, World.ownsRow_nil _ _ _ _, below_dq (below_one (Below.refl _ _)) _⟩
  · dsimp only at k1 k2 k3 k4 k5
    obtain ⟨a, ha⟩ : ∃ a : Nat, ta = a := ⟨ta.toNat, by omega⟩
    obtain ⟨b, hb⟩ : ∃ b : Nat, tb = b := ⟨tb.toNat, by omega⟩
    subst ha
    subst hb
    subst k1
    have han : a < n := by omega
    have hai : (a : Int) < n := by omega
    have hbn : b < n := by omega
    have hbi : (b : Int) < n := by omega
    have HFB := hidq (show M.fitI (b : Int) from ⟨by omega, by omega⟩)
    have T2 := hidq trivial
    have c1 := HK.out a han
    have c2 := HK.out b hbn
    have c3 := HK.out k hk
    clear hm
    by_cases hd : (a : Int) ∈ D
    · rw [decide_eq_true hd] at c1
      have e := HTT.out hd rfl
      clear hd
      by_cases hdb : (b : Int) ∈ D
      · rw [decide_eq_true hdb] at c2
        rw [if_pos hdb] at e
        by_cases hdk : (k : Int) ∈ D
        · rw [decide_eq_true hdk] at c3
          rw [if_pos hdk] at e
          have HKD := hidq (show decide ((k : Int) ∈ D) = true from decide_eq_true hdk)
          subst e
          clear hdb hdk
          go_enter Try.func34, Try.ntmps34
          go_wp2
          go_quiet (fail)
          go_wp2
          go_quiet (fail)
          go_wp2_with (first | (at_builtin; clear T1; refine wpList_append_fr (E := elInt) rfl _ _ rfl w.heap.size _ _ [] rfl (World.ownsRow_nil _ _ _ _) _ [(k : Int)] rfl (is_oneq _ _ (by simp) _ HFK.out) (by simp only [List.length_cons, List.length_nil]; omega) (by simp; omega) ?_; intro v6 w6 hown6 hgrow6 hfr6; obtain ⟨ao6, cap6, rfl, _⟩ := own_formq hown6; have hb6 : Below (w.alloc (.cells #[.int .i64 5, .int .i64 (a : Int), .int .i64 (b : Int)] 41)).heap.size (w.alloc (.cells #[.int .i64 5, .int .i64 (a : Int), .int .i64 (b : Int)] 41)) w6 := (by first | exact Below.grown (Below.alloc (below_dq (below_dq (Below.refl _ _) _) _) (by simp) _) hgrow6 (by simp) (fun q hq => by cases hq) | exact Below.grown (Below.alloc (below_dq (Below.refl _ _) _) (by simp) _) hgrow6 (by simp) (fun q hq => by cases hq)); have y1 := ((H1.out.alloc _).below hb6).cell 1; have y2 := ownB_cell (own_keptq (H2.out.alloc _) hb6) hk; rw [HKD.out] at y2; have y3 := ((Bx3.new w (5, (a : Int), (b : Int))).below hb6).cells.2.2; dsimp only at y3; have O6 := hidq hown6; have B6 := hidq (below_trans (below_one (Below.refl _ _)) hb6); have sz6 := hb6.size; simp at sz6; clear hown6 hgrow6 hfr6 hb6) | (at_builtin; clear T2; refine wpList_append_fr (E := elInt) rfl _ _ rfl w.heap.size _ _ [(k : Int)] rfl (O6.out.alloc _) _ [(b : Int)] rfl (is_oneq _ _ (by simp) _ HFB.out) (by simp only [List.length_cons, List.length_nil]; omega) (by simp; omega) ?_; intro v7 w7 hown7 hgrow7 hfr7; have O7 := hidq hown7; have B7 := hidq ((below_one (o := .cells #[.int .i64 (b : Int)] 3) B6.out).grown hgrow7 (by simp; omega) (fun q hq => (O6.out.lt q hq).1)); clear hown7 hgrow7 hfr7))
          go_ret
          exact ⟨_, rfl, O7.out, B7.out⟩
        · rw [decide_eq_false hdk] at c3
          rw [if_neg hdk] at e
          have HKD := hidq (show decide ((k : Int) ∈ D) = false from decide_eq_false hdk)
          subst e
          clear hdb hdk
          go_enter Try.func34, Try.ntmps34
          go_wp2
          go_quiet (fail)
          go_wp2
          go_quiet (fail)
          go_wp2_with (first | (at_builtin; clear T1; refine wpList_append_fr (E := elInt) rfl _ _ rfl w.heap.size _ _ [] rfl (World.ownsRow_nil _ _ _ _) _ [(k : Int)] rfl (is_oneq _ _ (by simp) _ HFK.out) (by simp only [List.length_cons, List.length_nil]; omega) (by simp; omega) ?_; intro v6 w6 hown6 hgrow6 hfr6; obtain ⟨ao6, cap6, rfl, _⟩ := own_formq hown6; have hb6 : Below (w.alloc (.cells #[.int .i64 5, .int .i64 (a : Int), .int .i64 (b : Int)] 41)).heap.size (w.alloc (.cells #[.int .i64 5, .int .i64 (a : Int), .int .i64 (b : Int)] 41)) w6 := (by first | exact Below.grown (Below.alloc (below_dq (below_dq (Below.refl _ _) _) _) (by simp) _) hgrow6 (by simp) (fun q hq => by cases hq) | exact Below.grown (Below.alloc (below_dq (Below.refl _ _) _) (by simp) _) hgrow6 (by simp) (fun q hq => by cases hq)); have y1 := ((H1.out.alloc _).below hb6).cell 1; have y2 := ownB_cell (own_keptq (H2.out.alloc _) hb6) hk; rw [HKD.out] at y2; have y3 := ((Bx3.new w (5, (a : Int), (b : Int))).below hb6).cells.2.2; dsimp only at y3; have O6 := hidq hown6; have B6 := hidq (below_trans (below_one (Below.refl _ _)) hb6); have sz6 := hb6.size; simp at sz6; clear hown6 hgrow6 hfr6 hb6))
          go_ret
          exact ⟨_, rfl, O6.out, B6.out⟩
      · rw [decide_eq_false hdb] at c2
        rw [if_neg hdb] at e
        by_cases hdk : (k : Int) ∈ D
        · rw [decide_eq_true hdk] at c3
          rw [if_pos hdk] at e
          subst e
          clear hdb hdk
          go_enter Try.func34, Try.ntmps34
          go_wp2
          go_quiet (fail)
          go_wp2
          go_quiet (fail)
          go_wp2_with (first | (at_builtin; clear T2; refine wpList_append_fr (E := elInt) rfl _ _ rfl w.heap.size _ _ [] rfl (World.ownsRow_nil _ _ _ _) _ [(b : Int)] rfl (is_oneq _ _ (by simp) _ HFB.out) (by simp only [List.length_cons, List.length_nil]; omega) (by simp; omega) ?_; intro v7 w7 hown6 hgrow6 hfr6; have hb6 : Below (w.alloc (.cells #[.int .i64 5, .int .i64 (a : Int), .int .i64 (b : Int)] 41)).heap.size (w.alloc (.cells #[.int .i64 5, .int .i64 (a : Int), .int .i64 (b : Int)] 41)) w7 := (by first | exact Below.grown (Below.alloc (below_dq (below_dq (Below.refl _ _) _) _) (by simp) _) hgrow6 (by simp) (fun q hq => by cases hq) | exact Below.grown (Below.alloc (below_dq (Below.refl _ _) _) (by simp) _) hgrow6 (by simp) (fun q hq => by cases hq)); have O7 := hidq hown6; have B7 := hidq (below_trans (below_one (Below.refl _ _)) hb6); clear hown6 hgrow6 hfr6 hb6))
          go_ret
          exact ⟨_, rfl, O7.out, B7.out⟩
        · rw [decide_eq_false hdk] at c3
          rw [if_neg hdk] at e
          subst e
          clear hdb hdk
          go_enter Try.func34, Try.ntmps34
          go_wp2
          go_quiet (fail)
          go_wp2
          go_quiet (fail)
          go_wp2
          go_ret
          exact ⟨_, rfl, World.ownsRow_nil _ _ _ _, by first | exact below_dq (below_dq (below_one (Below.refl _ _)) _) _ | exact below_dq (below_one (Below.refl _ _)) _⟩
    · rw [decide_eq_false hd] at c1
      have e : E = [] := HTE.out (.inr hd)
      subst e
      clear hd
      go_enter Try.func34, Try.ntmps34
      go_wp2
      go_quiet (fail)
      go_wp2
      go_ret
      exact ⟨_, rfl, World.ownsRow_nil _ _ _ _, below_dq (below_one (Below.refl _ _)) _⟩
end Go.Proofs.Ythkkclhjpgkhaaa
