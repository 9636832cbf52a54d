/-
  The document's own Part of layer 7, at every input. Conditions: the slice holds terms; whole numbers are such.
-/
import Derived.Test.YthmiekinjfaflaaGreatZD1
namespace Go.Proofs.YthmiekinjfaflaaGreat
open Go.RowKit
set_option maxRecDepth 100000 in
set_option maxHeartbeats 4000000 in
theorem rpart_no {A : List M.Tm} {v : M.Val} {i : Int} (h : ¬ (M.Ok A ∧ M.PartOk A v i)) {vl : Value} (w : World) (u : Ts w vl A) :
    Calls Tryz.prog 39 #[vl, (.agg #[.bool v.1, .bool v.2.1, .int .u64 (M.nu v.2.2.1.1), .int .u64 (M.nu v.2.2.1.2), .int .u64 (M.nu v.2.2.2.1.1.1), .int .u64 (M.nu v.2.2.2.1.1.2), .int .u64 (M.nu v.2.2.2.1.2.1), .int .u64 (M.nu v.2.2.2.1.2.2), .int .i64 v.2.2.2.2]), .int .i64 i] w fun e w' => ∃ v', e = .returned (.tuple #[(.agg #[.bool M.zV.1, .bool M.zV.2.1, .int .u64 (M.nu M.zV.2.2.1.1), .int .u64 (M.nu M.zV.2.2.1.2), .int .u64 (M.nu M.zV.2.2.2.1.1.1), .int .u64 (M.nu M.zV.2.2.2.1.1.2), .int .u64 (M.nu M.zV.2.2.2.1.2.1), .int .u64 (M.nu M.zV.2.2.2.1.2.2), .int .i64 M.zV.2.2.2.2]), v', .int .i64 1]) ∧ w'.ownsRow w.heap.size 39 3 v' 0 (elTm.cells []) ∧ Below w.heap.size w w' := by
  rw [zV_eq]
  have XZ := hidq (zbox (w.alloc (.cells #[.bool v.1, .bool v.2.1, .int .u64 (M.nu v.2.2.1.1), .int .u64 (M.nu v.2.2.1.2), .int .u64 (M.nu v.2.2.2.1.1.1), .int .u64 (M.nu v.2.2.2.1.1.2), .int .u64 (M.nu v.2.2.2.1.2.1), .int .u64 (M.nu v.2.2.2.1.2.2), .int .i64 v.2.2.2.2] 29)))
  rw [World.size_alloc] at XZ
  have XV := hidq ((Bx9.new w v).alloc (.cells #[.bool false, .bool false, .int .u64 0, .int .u64 0, .int .u64 0, .int .u64 0, .int .u64 0, .int .u64 0, .int .i64 0] 29))
  have UB := hidq ((u.alloc (.cells #[.bool v.1, .bool v.2.1, .int .u64 (M.nu v.2.2.1.1), .int .u64 (M.nu v.2.2.1.2), .int .u64 (M.nu v.2.2.2.1.1.1), .int .u64 (M.nu v.2.2.2.1.1.2), .int .u64 (M.nu v.2.2.2.1.2.1), .int .u64 (M.nu v.2.2.2.1.2.2), .int .i64 v.2.2.2.2] 29)).alloc (.cells #[.bool false, .bool false, .int .u64 0, .int .u64 0, .int .u64 0, .int .u64 0, .int .u64 0, .int .u64 0, .int .i64 0] 29))
  have BB := hidq (show Below w.heap.size w ((w.alloc (.cells #[.bool v.1, .bool v.2.1, .int .u64 (M.nu v.2.2.1.1), .int .u64 (M.nu v.2.2.1.2), .int .u64 (M.nu v.2.2.2.1.1.1), .int .u64 (M.nu v.2.2.2.1.1.2), .int .u64 (M.nu v.2.2.2.1.2.1), .int .u64 (M.nu v.2.2.2.1.2.2), .int .i64 v.2.2.2.2] 29)).alloc (.cells #[.bool false, .bool false, .int .u64 0, .int .u64 0, .int .u64 0, .int .u64 0, .int .u64 0, .int .u64 0, .int .i64 0] 29)) from below_one (below_one (Below.refl _ _)))
  clear u
  by_cases hc : M.Ok A ∧ M.mb A v = true
  · have HC := hidq (fun W (u : Ts W vl A) => rcheck7_eq (M.chkV_0.2 hc) W u)
    obtain ⟨s, hs⟩ : ∃ s, M.sld A v = s := ⟨_, rfl⟩
    have SC := hidq (fun W (u : Ts W vl A) => rshut_eq hs hc.2 W u)
    have key : s = true ∨ s = false ∧ i < 0 ∨ s = false ∧ ¬ i < 0 ∧ 2 < i := by
      cases s with
      | true => exact .inl rfl
      | false =>
        by_cases h0 : i < 0
        · exact .inr (.inl ⟨rfl, h0⟩)
        · refine .inr (.inr ⟨rfl, h0, ?_⟩)
          by_cases h2 : 2 < i
          · exact h2
          · exact absurd ⟨hc.1, hc.2, hs, by omega, by omega⟩ h
    clear h hs hc
    rcases key with rfl | ⟨rfl, h0⟩ | ⟨rfl, h0, h2⟩
    all_goals go_enter Tryz.func39, Tryz.ntmps39
    all_goals go_wp2_with (first | (go_at_call 36; refine (HC.out _ UB.out).mono ?_; rintro e w1 ⟨rfl, hb1⟩; have XW := XZ.out.below hb1; obtain ⟨c0, c1, c2, c3, c4, c5, c6, c7, c8⟩ := XW.cells; obtain ⟨f0, f1, f2, f3, f4, f5, f6, f7, f8⟩ := XW.frozen; have XZ1 := hidq XW; have XV1 := hidq (XV.out.below hb1); have cv1 := XV1.out.cells; have U1 := hidq (UB.out.below hb1); have B1 := hidq (below_trans BB.out hb1); clear hb1 XW) | (go_at_call 61; refine (SC.out _ U1.out).mono ?_; rintro e w2 ⟨rfl, hb2⟩; have XW := XZ1.out.below hb2; obtain ⟨c0, c1, c2, c3, c4, c5, c6, c7, c8⟩ := XW.cells; obtain ⟨f0, f1, f2, f3, f4, f5, f6, f7, f8⟩ := XW.frozen; have XZ2 := hidq XW; have XV2 := hidq (XV1.out.below hb2); have cv2 := XV2.out.cells; have U2 := hidq (U1.out.below hb2); have B2 := hidq (below_trans B1.out hb2); clear hb2 XW))
    all_goals refine bodyPost_ret (v := .tuple #[.agg #[.bool _, .bool _, .int .u64 _, .int .u64 _, .int .u64 _, .int .u64 _, .int .u64 _, .int .u64 _, .int .i64 _], _, .int .i64 _]) (by simp [results, go_sem, c0, c1, c2, c3, c4, c5, c6, c7, c8, Tryz.results39]) rfl ⟨_, rfl, World.ownsRow_nil _ _ _ _, below_set9 B2.out (by omega) _ _ _ _ _ _ _ _ _⟩
  · have HC := hidq (fun W (u : Ts W vl A) => rcheck7_eq (M.chkV_1 hc) W u)
    clear h hc
    go_enter Tryz.func39, Tryz.ntmps39
    go_wp2_with (first | (go_at_call 36; refine (HC.out _ UB.out).mono ?_; rintro e w1 ⟨rfl, hb1⟩; have XW := XZ.out.below hb1; obtain ⟨c0, c1, c2, c3, c4, c5, c6, c7, c8⟩ := XW.cells; obtain ⟨f0, f1, f2, f3, f4, f5, f6, f7, f8⟩ := XW.frozen; have XZ1 := hidq XW; have XV1 := hidq (XV.out.below hb1); have cv1 := XV1.out.cells; have U1 := hidq (UB.out.below hb1); have B1 := hidq (below_trans BB.out hb1); clear hb1 XW))
    refine bodyPost_ret (v := .tuple #[.agg #[.bool _, .bool _, .int .u64 _, .int .u64 _, .int .u64 _, .int .u64 _, .int .u64 _, .int .u64 _, .int .i64 _], _, .int .i64 _]) (by simp [results, go_sem, c0, c1, c2, c3, c4, c5, c6, c7, c8, Tryz.results39]) rfl ⟨_, rfl, World.ownsRow_nil _ _ _ _, below_set9 B1.out (by omega) _ _ _ _ _ _ _ _ _⟩
set_option maxRecDepth 100000 in
set_option maxHeartbeats 4000000 in
theorem rpart_sym {A : List M.Tm} {l : Bool} {b : M.Blk} {q : M.Sea} {t : Int} {i : Int} (ht : M.fitI t) (h : M.Ok A ∧ M.PartOk A (true, l, b, q, t) i) {x : M.Val} {L : List M.Tm} {n : Int} (hx : M.mkT A (2 + i, t, 0) = (x, L, n)) {vl : Value} (w : World) (u : Ts w vl A) :
    Calls Tryz.prog 39 #[vl, (.agg #[.bool (true, l, b, q, t).1, .bool (true, l, b, q, t).2.1, .int .u64 (M.nu (true, l, b, q, t).2.2.1.1), .int .u64 (M.nu (true, l, b, q, t).2.2.1.2), .int .u64 (M.nu (true, l, b, q, t).2.2.2.1.1.1), .int .u64 (M.nu (true, l, b, q, t).2.2.2.1.1.2), .int .u64 (M.nu (true, l, b, q, t).2.2.2.1.2.1), .int .u64 (M.nu (true, l, b, q, t).2.2.2.1.2.2), .int .i64 (true, l, b, q, t).2.2.2.2]), .int .i64 i] w fun e w' => ∃ v', e = .returned (.tuple #[(.agg #[.bool x.1, .bool x.2.1, .int .u64 (M.nu x.2.2.1.1), .int .u64 (M.nu x.2.2.1.2), .int .u64 (M.nu x.2.2.2.1.1.1), .int .u64 (M.nu x.2.2.2.1.1.2), .int .u64 (M.nu x.2.2.2.1.2.1), .int .u64 (M.nu x.2.2.2.1.2.2), .int .i64 x.2.2.2.2]), v', .int .i64 n]) ∧ w'.ownsRow w.heap.size 39 3 v' L.length (elTm.cells L) ∧ Below w.heap.size w w' := by
  obtain ⟨hA, hm, hs, h0, h2⟩ := h
  have XZ := hidq (zbox (w.alloc (.cells #[.bool (true, l, b, q, t).1, .bool (true, l, b, q, t).2.1, .int .u64 (M.nu (true, l, b, q, t).2.2.1.1), .int .u64 (M.nu (true, l, b, q, t).2.2.1.2), .int .u64 (M.nu (true, l, b, q, t).2.2.2.1.1.1), .int .u64 (M.nu (true, l, b, q, t).2.2.2.1.1.2), .int .u64 (M.nu (true, l, b, q, t).2.2.2.1.2.1), .int .u64 (M.nu (true, l, b, q, t).2.2.2.1.2.2), .int .i64 (true, l, b, q, t).2.2.2.2] 29)))
  rw [World.size_alloc] at XZ
  have XV := hidq ((Bx9.new w (true, l, b, q, t)).alloc (.cells #[.bool false, .bool false, .int .u64 0, .int .u64 0, .int .u64 0, .int .u64 0, .int .u64 0, .int .u64 0, .int .i64 0] 29))
  have UB := hidq ((u.alloc (.cells #[.bool (true, l, b, q, t).1, .bool (true, l, b, q, t).2.1, .int .u64 (M.nu (true, l, b, q, t).2.2.1.1), .int .u64 (M.nu (true, l, b, q, t).2.2.1.2), .int .u64 (M.nu (true, l, b, q, t).2.2.2.1.1.1), .int .u64 (M.nu (true, l, b, q, t).2.2.2.1.1.2), .int .u64 (M.nu (true, l, b, q, t).2.2.2.1.2.1), .int .u64 (M.nu (true, l, b, q, t).2.2.2.1.2.2), .int .i64 (true, l, b, q, t).2.2.2.2] 29)).alloc (.cells #[.bool false, .bool false, .int .u64 0, .int .u64 0, .int .u64 0, .int .u64 0, .int .u64 0, .int .u64 0, .int .i64 0] 29))
  have BB := hidq (show Below w.heap.size w ((w.alloc (.cells #[.bool (true, l, b, q, t).1, .bool (true, l, b, q, t).2.1, .int .u64 (M.nu (true, l, b, q, t).2.2.1.1), .int .u64 (M.nu (true, l, b, q, t).2.2.1.2), .int .u64 (M.nu (true, l, b, q, t).2.2.2.1.1.1), .int .u64 (M.nu (true, l, b, q, t).2.2.2.1.1.2), .int .u64 (M.nu (true, l, b, q, t).2.2.2.1.2.1), .int .u64 (M.nu (true, l, b, q, t).2.2.2.1.2.2), .int .i64 (true, l, b, q, t).2.2.2.2] 29)).alloc (.cells #[.bool false, .bool false, .int .u64 0, .int .u64 0, .int .u64 0, .int .u64 0, .int .u64 0, .int .u64 0, .int .i64 0] 29)) from below_one (below_one (Below.refl _ _)))
  have HC := hidq (fun W (u : Ts W vl A) => rcheck7_eq (M.chkV_0.2 ⟨hA, hm⟩) W u)
  have SC := hidq (fun W (u : Ts W vl A) => rshut_eq hs hm W u)
  have g0 : ¬ i < 0 := by omega
  have g2 : ¬ 2 < i := by omega
  have HX := hidq hx
  have HF := hidq (show M.fitT (2 + i, t, 0) from fit3 (fit_lit (by omega) (by omega)) ht (fit_lit (by decide) (by decide)))
  have hw : IntKind.i64.wrap (2 + i) = 2 + i := by rw [IntKind.wrap_i64]; omega
  clear hm hs hx u ht hA
  dsimp only at XZ XV UB BB SC HC ⊢
  go_enter Tryz.func39, Tryz.ntmps39
  go_wp2_with (first | (go_at_call 36; refine (HC.out _ UB.out).mono ?_; rintro e w1 ⟨rfl, hb1⟩; have XW := XZ.out.below hb1; obtain ⟨c0, c1, c2, c3, c4, c5, c6, c7, c8⟩ := XW.cells; obtain ⟨f0, f1, f2, f3, f4, f5, f6, f7, f8⟩ := XW.frozen; have XZ1 := hidq XW; have XV1 := hidq (XV.out.below hb1); have cv1 := XV1.out.cells; have U1 := hidq (UB.out.below hb1); have B1 := hidq (below_trans BB.out hb1); clear hb1 XW) | (go_at_call 61; refine (SC.out _ U1.out).mono ?_; rintro e w2 ⟨rfl, hb2⟩; have XW := XZ1.out.below hb2; obtain ⟨c0, c1, c2, c3, c4, c5, c6, c7, c8⟩ := XW.cells; obtain ⟨f0, f1, f2, f3, f4, f5, f6, f7, f8⟩ := XW.frozen; have XZ2 := hidq XW; have XV2 := hidq (XV1.out.below hb2); have cv2 := XV2.out.cells; have U2 := hidq (U1.out.below hb2); have B2 := hidq (below_trans B1.out hb2); clear hb2 XW) | (go_at_call 62; refine (rmade_eq (t := (2 + i, t, 0)) HF.out HX.out _ U2.out).mono ?_; rintro e w3 ⟨v', rfl, ho3, hb3⟩; have XW := XZ2.out.below hb3; obtain ⟨c0, c1, c2, c3, c4, c5, c6, c7, c8⟩ := XW.cells; obtain ⟨f0, f1, f2, f3, f4, f5, f6, f7, f8⟩ := XW.frozen; have O3 := hidq ho3; have B3 := hidq (below_trans B2.out hb3); clear ho3 hb3 XW))
  refine bodyPost_ret (v := .tuple #[.agg #[.bool _, .bool _, .int .u64 _, .int .u64 _, .int .u64 _, .int .u64 _, .int .u64 _, .int .u64 _, .int .i64 _], _, .int .i64 _]) (by simp [results, go_sem, c0, c1, c2, c3, c4, c5, c6, c7, c8, Tryz.results39]) rfl ⟨_, rfl, own_lowerq (own_set9 O3.out XZ2.out.lt _ _ _ _ _ _ _ _ _) B2.out.size, below_set9 B3.out (by omega) _ _ _ _ _ _ _ _ _⟩
set_option maxRecDepth 100000 in
set_option maxHeartbeats 4000000 in
theorem rpart_oct {A : List M.Tm} {l : Bool} {b : M.Blk} {q : M.Sea} {t : Int} {i : Int} (h : M.Ok A ∧ M.PartOk A (false, l, b, q, t) i) {vl : Value} (w : World) (u : Ts w vl A) :
    Calls Tryz.prog 39 #[vl, (.agg #[.bool (false, l, b, q, t).1, .bool (false, l, b, q, t).2.1, .int .u64 (M.nu (false, l, b, q, t).2.2.1.1), .int .u64 (M.nu (false, l, b, q, t).2.2.1.2), .int .u64 (M.nu (false, l, b, q, t).2.2.2.1.1.1), .int .u64 (M.nu (false, l, b, q, t).2.2.2.1.1.2), .int .u64 (M.nu (false, l, b, q, t).2.2.2.1.2.1), .int .u64 (M.nu (false, l, b, q, t).2.2.2.1.2.2), .int .i64 (false, l, b, q, t).2.2.2.2]), .int .i64 i] w fun e w' => ∃ v', e = .returned (.tuple #[(.agg #[.bool (M.ofB (M.partV b i)).1, .bool (M.ofB (M.partV b i)).2.1, .int .u64 (M.nu (M.ofB (M.partV b i)).2.2.1.1), .int .u64 (M.nu (M.ofB (M.partV b i)).2.2.1.2), .int .u64 (M.nu (M.ofB (M.partV b i)).2.2.2.1.1.1), .int .u64 (M.nu (M.ofB (M.partV b i)).2.2.2.1.1.2), .int .u64 (M.nu (M.ofB (M.partV b i)).2.2.2.1.2.1), .int .u64 (M.nu (M.ofB (M.partV b i)).2.2.2.1.2.2), .int .i64 (M.ofB (M.partV b i)).2.2.2.2]), v', .int .i64 0]) ∧ w'.ownsRow w.heap.size 39 3 v' A.length (elTm.cells A) ∧ Below w.heap.size w w' := by
  obtain ⟨hA, hm, hs, h0, h2⟩ := h
  have XZ := hidq (zbox (w.alloc (.cells #[.bool (false, l, b, q, t).1, .bool (false, l, b, q, t).2.1, .int .u64 (M.nu (false, l, b, q, t).2.2.1.1), .int .u64 (M.nu (false, l, b, q, t).2.2.1.2), .int .u64 (M.nu (false, l, b, q, t).2.2.2.1.1.1), .int .u64 (M.nu (false, l, b, q, t).2.2.2.1.1.2), .int .u64 (M.nu (false, l, b, q, t).2.2.2.1.2.1), .int .u64 (M.nu (false, l, b, q, t).2.2.2.1.2.2), .int .i64 (false, l, b, q, t).2.2.2.2] 29)))
  rw [World.size_alloc] at XZ
  have XV := hidq ((Bx9.new w (false, l, b, q, t)).alloc (.cells #[.bool false, .bool false, .int .u64 0, .int .u64 0, .int .u64 0, .int .u64 0, .int .u64 0, .int .u64 0, .int .i64 0] 29))
  have UB := hidq ((u.alloc (.cells #[.bool (false, l, b, q, t).1, .bool (false, l, b, q, t).2.1, .int .u64 (M.nu (false, l, b, q, t).2.2.1.1), .int .u64 (M.nu (false, l, b, q, t).2.2.1.2), .int .u64 (M.nu (false, l, b, q, t).2.2.2.1.1.1), .int .u64 (M.nu (false, l, b, q, t).2.2.2.1.1.2), .int .u64 (M.nu (false, l, b, q, t).2.2.2.1.2.1), .int .u64 (M.nu (false, l, b, q, t).2.2.2.1.2.2), .int .i64 (false, l, b, q, t).2.2.2.2] 29)).alloc (.cells #[.bool false, .bool false, .int .u64 0, .int .u64 0, .int .u64 0, .int .u64 0, .int .u64 0, .int .u64 0, .int .i64 0] 29))
  have BB := hidq (show Below w.heap.size w ((w.alloc (.cells #[.bool (false, l, b, q, t).1, .bool (false, l, b, q, t).2.1, .int .u64 (M.nu (false, l, b, q, t).2.2.1.1), .int .u64 (M.nu (false, l, b, q, t).2.2.1.2), .int .u64 (M.nu (false, l, b, q, t).2.2.2.1.1.1), .int .u64 (M.nu (false, l, b, q, t).2.2.2.1.1.2), .int .u64 (M.nu (false, l, b, q, t).2.2.2.1.2.1), .int .u64 (M.nu (false, l, b, q, t).2.2.2.1.2.2), .int .i64 (false, l, b, q, t).2.2.2.2] 29)).alloc (.cells #[.bool false, .bool false, .int .u64 0, .int .u64 0, .int .u64 0, .int .u64 0, .int .u64 0, .int .u64 0, .int .i64 0] 29)) from below_one (below_one (Below.refl _ _)))
  have HC := hidq (fun W (u : Ts W vl A) => rcheck7_eq (M.chkV_0.2 ⟨hA, hm⟩) W u)
  have SC := hidq (fun W (u : Ts W vl A) => rshut_eq hs hm W u)
  have g0 : ¬ i < 0 := by omega
  have g2 : ¬ 2 < i := by omega
  obtain ⟨y, hy⟩ : ∃ y, M.partV b i = y := ⟨_, rfl⟩
  rw [hy, ofB_eq]
  have HY := hidq hy
  have HL := hidq hA.1
  clear hm hs u hA hy
  dsimp only at XZ XV UB BB SC HC ⊢
  go_enter Tryz.func39, Tryz.ntmps39
  go_upto_region 6 with (first | (go_at_call 36; refine (HC.out _ UB.out).mono ?_; rintro e w1 ⟨rfl, hb1⟩; have XW := XZ.out.below hb1; obtain ⟨c0, c1, c2, c3, c4, c5, c6, c7, c8⟩ := XW.cells; obtain ⟨f0, f1, f2, f3, f4, f5, f6, f7, f8⟩ := XW.frozen; have XZ1 := hidq XW; have XV1 := hidq (XV.out.below hb1); have cv1 := XV1.out.cells; have U1 := hidq (UB.out.below hb1); have B1 := hidq (below_trans BB.out hb1); clear hb1 XW) | (go_at_call 61; refine (SC.out _ U1.out).mono ?_; rintro e w2 ⟨rfl, hb2⟩; have XW := XZ1.out.below hb2; obtain ⟨c0, c1, c2, c3, c4, c5, c6, c7, c8⟩ := XW.cells; obtain ⟨f0, f1, f2, f3, f4, f5, f6, f7, f8⟩ := XW.frozen; have XZ2 := hidq XW; have XV2 := hidq (XV1.out.below hb2); have cv2 := XV2.out.cells; have U2 := hidq (U1.out.below hb2); have B2 := hidq (below_trans B1.out hb2); clear hb2 XW) | (go_at_call 63; refine (rpart7_eq HY.out _).mono ?_; rintro e w3 ⟨rfl, hb3⟩; have XZ3 := XZ2.out.below hb3; have U3 := U2.out.below hb3; have B3 := below_trans B2.out hb3; clear hb3))
  have XZ4 := XZ3.alloc (.cells #[.int .u64 (M.nu y.1), .int .u64 (M.nu y.2)] 25)
  have YB4 := Bx2.new w3 y
  have U4 := U3.alloc (.cells #[.int .u64 (M.nu y.1), .int .u64 (M.nu y.2)] 25)
  have B4 := below_one (o := (.cells #[.int .u64 (M.nu y.1), .int .u64 (M.nu y.2)] 25)) B3
  have s4 := XZ3.lt
  have s5 := (Nat.lt_succ_self w3.heap.size)
  rw [show w3.heap.size.succ = (w3.alloc (.cells #[.int .u64 (M.nu y.1), .int .u64 (M.nu y.2)] 25)).heap.size by simp] at s5
  clear XZ3 U3 B3
  generalize w3.alloc (.cells #[.int .u64 (M.nu y.1), .int .u64 (M.nu y.2)] 25) = W at *
  generalize w3.heap.size = Bq at *
  obtain ⟨d0, d1⟩ := YB4.cells
  have n1 : w.heap.size + 1 ≠ Bq := by omega
  have XD : Hid (Bx9 W.drew (w.heap.size + 1) M.zV) := XZ4
  have YD : Hid (Bx2 W.drew Bq y) := YB4
  have BD := hidq (below_d1 B4)
  have S4 := hidq XZ4.lt
  clear XZ4 YB4 s4 s5 B4
  go_region_held3 (fun X => X.cell? ⟨Bq, 0, none⟩ = some (.int .u64 (M.nu y.1)) ∧ X.cell? ⟨Bq, 1, none⟩ = some (.int .u64 (M.nu y.2))) (go_keep)
    (first | (go_at_call 64; refine (rown_any HL.out _ U4.drew).mono ?_; rintro r w5 ⟨v', rfl, ho5, hb5⟩; have XZ5 := XD.out.below hb5; have YV5 := (YD.out.below hb5).cells; obtain ⟨z0, z1, z2, z3, z4, z5, z6, z7, z8⟩ := XZ5.cells; obtain ⟨f0, f1, f2, f3, f4, f5, f6, f7, f8⟩ := XZ5.frozen; have O5 := hidq ho5; have B5 := hidq (below_trans BD.out hb5); clear ho5 hb5 XZ5))
  all_goals go_wp2
  all_goals refine bodyPost_ret (v := .tuple #[.agg #[.bool _, .bool _, .int .u64 _, .int .u64 _, .int .u64 _, .int .u64 _, .int .u64 _, .int .u64 _, .int .i64 _], _, .int .i64 _]) (by simp [results, Tryz.results39, go_sem, z0, z1, z2, z3, z4, z5, z6, z7, z8]) rfl ⟨_, rfl, own_lowerq (own_set9 O5.out S4.out _ _ _ _ _ _ _ _ _) BD.out.size, below_set9 B5.out (by omega) _ _ _ _ _ _ _ _ _⟩
set_option maxRecDepth 100000 in
theorem rvpart_eq {A : List M.Tm} {v : M.Val} {i : Int} (hv : M.fitI v.2.2.2.2) {x : M.Val} {L : List M.Tm} {n : Int} (h : M.partA A v i = (x, L, n)) {vl : Value} (w : World) (u : Ts w vl A) :
    Calls Tryz.prog 39 #[vl, (.agg #[.bool v.1, .bool v.2.1, .int .u64 (M.nu v.2.2.1.1), .int .u64 (M.nu v.2.2.1.2), .int .u64 (M.nu v.2.2.2.1.1.1), .int .u64 (M.nu v.2.2.2.1.1.2), .int .u64 (M.nu v.2.2.2.1.2.1), .int .u64 (M.nu v.2.2.2.1.2.2), .int .i64 v.2.2.2.2]), .int .i64 i] w fun e w' => ∃ v', e = .returned (.tuple #[(.agg #[.bool x.1, .bool x.2.1, .int .u64 (M.nu x.2.2.1.1), .int .u64 (M.nu x.2.2.1.2), .int .u64 (M.nu x.2.2.2.1.1.1), .int .u64 (M.nu x.2.2.2.1.1.2), .int .u64 (M.nu x.2.2.2.1.2.1), .int .u64 (M.nu x.2.2.2.1.2.2), .int .i64 x.2.2.2.2]), v', .int .i64 n]) ∧ w'.ownsRow w.heap.size 39 3 v' L.length (elTm.cells L) ∧ Below w.heap.size w w' := by
  by_cases hp : M.Ok A ∧ M.PartOk A v i
  · unfold M.partA at h
    rw [if_pos hp.2] at h
    obtain ⟨s, l, b, q, t⟩ := v
    cases s with
    | true => rw [if_pos rfl] at h; exact rpart_sym hv hp h w u
    | false =>
      rw [if_neg (fun h => Bool.noConfusion h)] at h
      unfold M.mkO at h
      rw [if_pos hp.1] at h
      simp only [Prod.mk.injEq] at h
      obtain ⟨rfl, rfl, rfl⟩ := h
      exact rpart_oct hp w u
  · rw [M.partA_bad hp] at h
    simp only [Prod.mk.injEq] at h
    obtain ⟨rfl, rfl, rfl⟩ := h
    exact rpart_no hp w u
end Go.Proofs.YthmiekinjfaflaaGreat
