/-
  What sub.Less answers, and what it lays: two boxes. No condition.
-/
import Derived.Test.YtmicgojojkkkhaaGreatZJ3
import Derived.Test.YtmicgojojkkkhaaGreatZXS
namespace Go.Proofs.YtmicgojojkkkhaaGreat
open Go.Shelf Go.RowKit Go.Lib Go.Sort
set_option maxRecDepth 100000 in
set_option maxHeartbeats 400000 in
theorem less_lays (I J K L : Int) (w : World) :
    Calls Tryz.prog 45 #[.agg #[.int .u64 I, .int .u64 J], .agg #[.int .u64 K, .int .u64 L]] w fun e w' => e = .returned (.bool (M.lssB I J K L)) ∧ ∃ q os, w' = grow (w.drewN q) os := by
  obtain ⟨r, hr⟩ : ∃ r, M.lssB I J K L = r := ⟨_, rfl⟩
  rw [hr]
  unfold M.lssB at hr
  by_cases c1 : I < K
  · rw [decide_eq_true c1] at hr
    obtain rfl : r = true := by rw [← hr]; rfl
    clear hr
    go_enter Tryz.func45, Tryz.ntmps45
    go_wp2
    all_goals go_ret; all_goals exact ⟨rfl, ⟨0, _, by rw [alloc_eq_grow, alloc_eq_grow, grow_grow]; rfl⟩⟩
  · rw [decide_eq_false c1] at hr
    by_cases c2 : I = K
    · subst c2
      rw [decide_eq_true rfl, Bool.false_or, Bool.true_and] at hr
      by_cases c3 : J < L
      · obtain rfl : r = true := by rw [← hr]; simpa using c3
        clear hr
        go_enter Tryz.func45, Tryz.ntmps45
        go_wp2
        all_goals go_ret; all_goals exact ⟨rfl, ⟨0, _, by rw [alloc_eq_grow, alloc_eq_grow, grow_grow]; rfl⟩⟩
      · obtain rfl : r = false := by rw [← hr]; simpa using c3
        clear hr
        go_enter Tryz.func45, Tryz.ntmps45
        go_wp2
        all_goals go_ret; all_goals exact ⟨rfl, ⟨0, _, by rw [alloc_eq_grow, alloc_eq_grow, grow_grow]; rfl⟩⟩
    · rw [decide_eq_false c2] at hr
      obtain rfl : r = false := by rw [← hr]; rfl
      clear hr
      go_enter Tryz.func45, Tryz.ntmps45
      go_wp2
      all_goals go_ret; all_goals exact ⟨rfl, ⟨0, _, by rw [alloc_eq_grow, alloc_eq_grow, grow_grow]; rfl⟩⟩
end Go.Proofs.YtmicgojojkkkhaaGreat
namespace Go.Proofs.YtmicgojojkkkhaaGreat
open Go.Shelf Go.RowKit Go.Lib Go.Sort
theorem grow_draw (W : World) (q q' : Nat) (os os' : Array Obj) : ∃ p ps, grow ((grow (W.drewN q) os).drewN q') os' = grow (W.drewN p) ps := by
  refine ⟨q + q', os ++ os', ?_⟩
  show grow (grow ((W.drewN q).drewN q') os) os' = _
  rw [grow_grow]
  congr 1
  simp [World.drewN, Nat.add_assoc]
set_option maxRecDepth 100000 in
set_option maxHeartbeats 1000000 in
theorem cloneS_any (A : List (Int × Int)) (hl : A.length ≤ 1000000) (v : Value) (w : World) (u : Ss w v A) :
    Calls Tryz.prog 42 #[v] w fun e w' => ∃ v', e = .returned v' ∧ w'.ownsRow w.heap.size 25 2 v' A.length (elSub.cells A) ∧ Below w.heap.size w w' := by
  have hnil : ∀ (w : World) (a : Option Addr) (n c n' c' : Nat), (binOp .eql 27 (.slice a n c) (.slice none n' c')).run Tryz.prog w = .ok (.bool a.isNone) w := fun w a n c n' c' => Lib.run_eql_slice_nil w _ _ a n c n' c' Tryz.underlying27
  have U := hidq u
  obtain ⟨ao, cap, rfl, q1, q2, q4⟩ := u.form
  clear u
  cases ao with
  | none =>
    have h0 : A.length = 0 := by
      rcases Nat.eq_zero_or_pos A.length with h | h
      · exact h
      · obtain ⟨b, off, e⟩ := q4 (by omega); cases e
    obtain rfl : A = [] := List.eq_nil_of_length_eq_zero h0
    clear q4
    go_enter Tryz.func42, Tryz.ntmps42
    go_wp2
    go_ret
    exact ⟨_, rfl, World.ownsRow_nil _ _ _ _, Below.refl _ _⟩
  | some ad =>
    clear q4
    have HB := hidq (below_one (o := .cells #[] 25) (Below.refl w.heap.size w))
    have HO := hidq (show (w.alloc (.cells #[] 25)).ownsRow w.heap.size 25 2 (.slice (some ⟨w.heap.size, 0, none⟩) 0 0) 0 (elSub.cells []) from ⟨rfl, .inr ⟨w.heap.size, 0, _, rfl, Nat.le_refl _, heap_alloc_new w _, Nat.le_refl _, by unfold maxLen; omega, rfl, rfl⟩⟩)
    go_enter Tryz.func42, Tryz.ntmps42
    go_wp2_with (at_builtin; refine wpList_append_sl (E := elSub) rfl _ _ rfl w.heap.size _ 0 [] rfl HO.out _ A rfl (U.out.alloc _) (by omega) HB.out.size ?_; intro v' w2 hown2 hgrow2)
    have hb2 : Below w.heap.size w w2 := HB.out.grown hgrow2 HB.out.size (fun q hq => (HO.out.lt q hq).1)
    have HO2 := hidq hown2
    clear hown2 hgrow2
    go_wp2
    go_ret
    exact ⟨_, rfl, by have := HO2.out; rw [Nat.zero_add, List.nil_append] at this; exact this, hb2⟩
def cmpS (x y : Int × Int) : Int := if M.ltS x y = true then -1 else if M.ltS y x = true then 1 else 0
theorem cmp_lt (x y : Int × Int) : ltOf cmpS x y = M.ltS x y := by
  unfold ltOf cmpS
  cases h1 : M.ltS x y with
  | true => simp
  | false => cases h2 : M.ltS y x <;> simp
theorem below_lays {W X : World} {base : Nat} (h : ∃ q os, X = grow (W.drewN q) os) (hb : base ≤ W.heap.size) : Below base W X := by
  obtain ⟨q, os, rfl⟩ := h
  refine ⟨rfl, rfl, rfl, by simp [grow, World.drewN], fun j hj => ?_⟩
  rw [heap_grow_old _ _ (by show j < W.heap.size; omega)]
  rfl
theorem lay_on {W X Y : World} {a b : Nat} {t u : TypeId} {i j k l : Int} (h : ∃ q os, X = grow (W.drewN q) os) (g : ∃ q os, Y = grow (X.drewN q) os) (x : Bi X a t i j) (y : Bi X b u k l) :
    (∃ q os, Y = grow (W.drewN q) os) ∧ Bi Y a t i j ∧ Bi Y b u k l := by
  have hb := below_lays (base := X.heap.size) g (Nat.le_refl _)
  refine ⟨?_, x.below hb, y.below hb⟩
  obtain ⟨q, os, rfl⟩ := h
  obtain ⟨p, ps, rfl⟩ := g
  exact grow_draw W q p os ps
set_option maxRecDepth 100000 in
set_option maxHeartbeats 1000000 in
theorem order_cmp (x y : Int × Int) (W : World) :
    Calls Tryz.prog 44 #[.agg #[.int .u64 x.1, .int .u64 x.2], .agg #[.int .u64 y.1, .int .u64 y.2]] W fun e w' => e = .returned (.int .i64 (cmpS x y)) ∧ ∃ q os, w' = grow (W.drewN q) os := by
  obtain ⟨I, J⟩ := x
  obtain ⟨K, L⟩ := y
  dsimp only
  unfold cmpS M.ltS
  dsimp only
  have G0 := hidq (show ∃ q os, ((W.alloc (.cells #[.int .u64 I, .int .u64 J] 25)).alloc (.cells #[.int .u64 K, .int .u64 L] 25)) = grow (W.drewN q) os from ⟨0, _, by rw [alloc_eq_grow, alloc_eq_grow, grow_grow]; rfl⟩)
  have X0 := hidq ((Bi.new W 25 I J).alloc (.cells #[.int .u64 K, .int .u64 L] 25))
  have Y0 := hidq (Bi.new1 W (.cells #[.int .u64 I, .int .u64 J] 25) 25 K L)
  obtain ⟨x1, x2⟩ := X0.out.facts
  obtain ⟨y1, y2⟩ := Y0.out.facts
  cases h1 : M.lssB I J K L with
  | true =>
    have H1 := hidq (fun W => h1 ▸ less_lays I J K L W)
    clear h1
    go_enter Tryz.func44, Tryz.ntmps44
    go_wp2_with (first | (go_at_call 45; refine (H1.out _).mono ?_; rintro e w1 ⟨rfl, hw1⟩; have Z := lay_on G0.out hw1 X0.out Y0.out; have X1 := hidq Z.2.1; have Y1 := hidq Z.2.2; have G1 := hidq Z.1; obtain ⟨p1, p2⟩ := X1.out.facts; obtain ⟨r1, r2⟩ := Y1.out.facts; clear Z hw1))
    go_ret
    exact ⟨rfl, G1.out⟩
  | false =>
    have H1 := hidq (fun W => h1 ▸ less_lays I J K L W)
    clear h1
    cases h2 : M.lssB K L I J with
    | true =>
      have H2 := hidq (fun W => h2 ▸ less_lays K L I J W)
      have T1 := hidq trivial
      clear h2
      go_enter Tryz.func44, Tryz.ntmps44
      go_wp2_with (first | (clear T1; (go_at_call 45; refine (H1.out _).mono ?_; rintro e w1 ⟨rfl, hw1⟩; have Z := lay_on G0.out hw1 X0.out Y0.out; have X1 := hidq Z.2.1; have Y1 := hidq Z.2.2; have G1 := hidq Z.1; obtain ⟨p1, p2⟩ := X1.out.facts; obtain ⟨r1, r2⟩ := Y1.out.facts; clear Z hw1)) | (go_at_call 45; refine (H2.out _).mono ?_; rintro e w2 ⟨rfl, hw2⟩; have Z := lay_on G1.out hw2 X1.out Y1.out; have G2 := hidq Z.1; clear Z hw2))
      go_ret
      exact ⟨rfl, G2.out⟩
    | false =>
      have H2 := hidq (fun W => h2 ▸ less_lays K L I J W)
      have T1 := hidq trivial
      clear h2
      go_enter Tryz.func44, Tryz.ntmps44
      go_wp2_with (first | (clear T1; (go_at_call 45; refine (H1.out _).mono ?_; rintro e w1 ⟨rfl, hw1⟩; have Z := lay_on G0.out hw1 X0.out Y0.out; have X1 := hidq Z.2.1; have Y1 := hidq Z.2.2; have G1 := hidq Z.1; obtain ⟨p1, p2⟩ := X1.out.facts; obtain ⟨r1, r2⟩ := Y1.out.facts; clear Z hw1)) | (go_at_call 45; refine (H2.out _).mono ?_; rintro e w2 ⟨rfl, hw2⟩; have Z := lay_on G1.out hw2 X1.out Y1.out; have G2 := hidq Z.1; clear Z hw2))
      go_ret
      exact ⟨rfl, G2.out⟩
set_option maxRecDepth 100000 in
set_option maxHeartbeats 1000000 in
theorem lorder_any (X : List (Int × Int)) (v : Value) (w : World) (hu : Ss w v X) (hX : X.length ≤ 160000) :
    Calls Tryz.prog 16 #[v] w fun e w' => ∃ v', e = .returned v' ∧ Ss w' v' (M.srt X) ∧ Below w.heap.size w w' := by
  have eg : ∀ args w, (callFunc 44 args).run Tryz.prog w = .ok (.enter 44 args) w := enters_of Tryz.func44 (by kernel_rfl) rfl
  have hok := hidq hu.oks
  have hcl := hidq (fun W u => cloneS_any X (by omega) v W u)
  have U := hidq hu
  have hlen := hidq hX
  clear hu hX
  go_enter Tryz.func16, Tryz.ntmps16
  go_wp2_with (first | (go_at_call 42; refine (hcl.out _ U.out).mono ?_; rintro e w1 ⟨v1, rfl, ho1, hb1⟩; have O1 := hidq ho1; have B1 := hidq hb1; clear ho1 hb1) | (go_at_call 43; refine (sort_subs 44 #[] cmpS cmp_lt eg (fun x y W => order_cmp x y W) O1.out (by have := hlen.out; omega)).mono ?_; rintro e w2 ⟨rfl, ho2, hg2⟩; have O2 := hidq ho2; have B2 := hidq (B1.out.grown hg2 B1.out.size (fun q hq => (O1.out.lt q hq).1)); clear ho2 hg2))
  go_ret
  exact ⟨_, rfl, by have := O2.out; rw [← M.srt_length X] at this; exact own_form2 this (fun x hx => hok.out x (M.srt_mem.1 hx)), B2.out⟩
end Go.Proofs.YtmicgojojkkkhaaGreat
