/-
  What near comes to. Conditions: the slice holds terms that may be.
-/
import Derived.Test.YthkkclhjpgkhaaaY3
import Derived.Deep.DeepCutAuto
namespace Go.Proofs.Ythkkclhjpgkhaaa
open Go.RowKit
theorem Try.infoSlz : (Try.prog.info? 23).map (fun i => (i.zero, i.size, i.bytes)) = some (some (.slice none 0 0), 1, 24) := by kernel_rfl
theorem Nst.start {W : World} {base ga n : Nat} (h : W.ownsRow base 23 1 (.slice (some ⟨ga, 0, none⟩) n n) n (elSl.cells (List.replicate n (none, 0, 0)))) : Nst W base ga n (fun _ => []) := by
  refine ⟨List.replicate n (none, 0, 0), by simp, h, fun j x hx => ?_, fun i j x y hx hy _ k hk => ?_⟩
  · rw [List.getElem?_replicate] at hx
    split at hx
    · cases hx; exact World.ownsRow_nil _ _ _ _
    · cases hx
  · rw [List.getElem?_replicate] at hx
    split at hx
    · cases hx; cases hk
    · cases hx
theorem Bx3.same {W W' : World} {B : Nat} {t : M.Tm} (h : Bx3 W B t) (e : W'.heap[B]? = W.heap[B]?) : Bx3 W' B t := e.trans h
theorem Bx3.ty {W : World} {B : Nat} {t : M.Tm} (h : Bx3 W B t) : ∀ z e cs, W.heap[B]? = some (.cells cs e z) → e ≠ 3 := fun z e cs he => by
  rw [show W.heap[B]? = _ from h] at he
  cases he
  decide
theorem Bx3.drew {W : World} {B : Nat} {t : M.Tm} (h : Bx3 W B t) : Bx3 W.drew B t := h
set_option maxRecDepth 100000 in
set_option maxHeartbeats 4000000 in
theorem near_any (A : List M.Tm) (hA : M.Ok A) (n : Nat) (v : Value) (w : World) (u : Ts w v A) (hn : A.length = n) :
    Calls Try.prog 36 #[v] w fun e w' => ∃ ga, e = .returned (.slice (some ⟨ga, 0, none⟩) n n) ∧ Nst w' w.heap.size ga n (M.nrF A n) ∧ Below w.heap.size w w' := by
  obtain ⟨at1, ct, rfl, hp1, hp2, hp4⟩ := u.form
  have hl := hA.1
  have U := hidq (fun X (hb : Below w.heap.size w X) => u.below hb)
  have HP4 := hidq hp4
  have HA := hidq hA
  have HN := hidq hn
  clear u hA hp4
  rw [hn] at hl hp1 U ⊢
  clear hn
  obtain ⟨i0, hi, hz0, hz1, hz2⟩ := info_partsq Try.infoSlz
  go_enter Try.func36, Try.ntmps36
  go_wp2_with (first | (at_make; refine wpList_make_full _ rfl _ _ 45 rfl w.heap.size 23 i0 (.slice none 0 0) 1 Try.underlying45 hi hz0 hz1 _ _ _ _ n rfl rfl (by first | rfl | omega) (by first | rfl | omega) ?b2 ?b3 (Nat.le_refl _) ?_))
  case b2 => (try rw [hz2]); omega
  case b3 => unfold maxLen; omega
  intro w2 hown hgrow
  have hB2 : Below w.heap.size w w2 := (Below.refl _ _).grown hgrow (Nat.le_refl _) (fun k hk => by cases hk)
  replace hown : w2.ownsRow w.heap.size 23 1 (.slice (some ⟨w.heap.size, 0, none⟩) n n) n (elSl.cells (List.replicate n (none, 0, 0))) := by rw [← elSl_zeros]; simpa using hown
  have hN2 := Nst.start hown
  have HS := hidq (⟨hN2, hB2⟩ : Nst w2 w.heap.size w.heap.size n (fun _ => []) ∧ Below w.heap.size w w2)
  clear hown hgrow hN2 hB2
  go_wp2
  go_loopw [11] (fun x wr => ∃ k : Nat, k ≤ n ∧ x = .int .i64 k ∧ Nst wr w.heap.size w.heap.size n (M.nrF A k) ∧ Below w.heap.size w wr) (fun x _ => n - (intOf x).toNat)
  case atStart => exact ⟨0, by omega, rfl, HS.out.1, HS.out.2⟩
  case round =>
    obtain ⟨k, hk, rfl, hNs, hb⟩ := hrel
    have HB := hidq hb
    have hsz := hb.size
    clear HS
    by_cases hlt : k < n
    · obtain ⟨bt, ot, rfl⟩ := HP4.out (by omega)
      have hki : (k : Int) < n := by omega
      have HFK := hidq (show M.fitI (k : Int) from ⟨by omega, by omega⟩)
      obtain ⟨x1, x2, x3⟩ := Ts.cell (U.out _ hb) (k := k) (by rw [HN.out]; exact hlt)
      have hm := (HA.out.2 k (by rw [HN.out]; exact hlt)).1
      have HF1 := hidq (show M.nrF A (k + 1) = ((k : Int) :: M.parts (M.at_ A k)).foldl (fun F p => M.app1 F p.toNat k) (M.nrF A k) from rfl)
      have hlen := M.nrF_len A k
      obtain ⟨⟨tk, ta, tb⟩, ht⟩ : ∃ t, M.at_ A k = t := ⟨_, rfl⟩
      rw [ht] at x1 x2 x3 hm HF1
      clear ht
      dsimp only at x1 x2 x3
      have hgl := hNs.block.2
      generalize hF0 : M.nrF A k = F0 at *
      obtain ⟨x, cx, ox, fx⟩ := (hNs.below ((Below.refl _ _).alloc (Nat.le_refl _) (.cells #[.int .i64 tk, .int .i64 ta, .int .i64 tb] 41))).more hlt
      have OX := hidq ox
      have FX := hidq fx
      have hl1 := hlen k
      clear hNs hb ox fx hF0
      have cx' : (wr.alloc (.cells #[.int .i64 tk, .int .i64 ta, .int .i64 tb] 41)).cell? ⟨w.heap.size, k, none⟩ = _ := cx
      obtain ⟨F, hF⟩ : ∃ F, F0 k = F := ⟨_, rfl⟩
      rw [hF] at OX FX hl1
      rcases M.may_kind hm with ⟨k1, k2, k3, k4⟩ | ⟨k1, k2, k3, k4⟩ | ⟨k1, k2, k3, k4, k5⟩
      · dsimp only at k1 k4
        subst k1
        subst k4
        have ZN := hidq (Bx3.new wr (1, ta, 0))
        have HF2 := hidq (show M.nrF A (k + 1) = M.app1 F0 k k by rw [HF1.out, M.parts_0 (by simp) (by simp) (by simp) (by simp)]; rfl)
        clear hm HF1
        go_wp2_with (first | (at_builtin; refine wpList_append_fr (E := elInt) rfl _ _ rfl w.heap.size _ _ F rfl (OX.out.alloc _) _ [(k : Int)] rfl (is_oneq _ _ (by simp) _ HFK.out) (by simp only [List.length_cons, List.length_nil]; omega) (by simp; omega) ?_; intro v6 w6 hown6 hgrow6 hfr6; replace hown6 : w6.ownsRow w.heap.size 3 1 v6 (F.length + 1) (elInt.cells (F ++ [(k : Int)])) := hown6; obtain ⟨y1, y2, y3, y4, y5⟩ := FX.out _ _ _ _ hown6 hgrow6 hfr6; obtain ⟨ao6, cap6, rfl, _⟩ := own_formq hown6; have Z := hidq (ZN.out.same (y5 wr.heap.size (by simp) (by omega) ZN.out.ty)); have z1 := Z.out.cells.1; dsimp only at z1; have N6 := hidq y3; have B6 := hidq ((below_one HB.out).trans (y4.below (fun _ h => h) (by simp; omega))); clear y3 y4 y5 hown6 hgrow6 hfr6))
        go_roundw
        case rel => exact ⟨k + 1, by omega, by go_num, by rw [HF2.out]; exact N6.out, B6.out⟩
        case measure => simp [intOf]; omega
      · dsimp only at k1 k2 k3 k4
        obtain ⟨a, rfl⟩ : ∃ a : Nat, ta = a := ⟨ta.toNat, by omega⟩
        subst k4
        have ZN := hidq (Bx3.new wr (tk, (a : Int), 0))
        have HF2 := hidq (show M.nrF A (k + 1) = M.app1 (M.app1 F0 k k) a k by rw [HF1.out, M.parts_1 k1]; rfl)
        have han : a < n := by omega
        have hai : (a : Int) < n := by omega
        have t1 : ¬ tk = 1 := by omega
        have t5 : ¬ tk = 5 := by omega
        clear hm HF1 k1
        go_wp2_with (first | (at_builtin; refine wpList_append_fr (E := elInt) rfl _ _ rfl w.heap.size _ _ F rfl (OX.out.alloc _) _ [(k : Int)] rfl (is_oneq _ _ (by simp) _ HFK.out) (by simp only [List.length_cons, List.length_nil]; omega) (by simp; omega) ?_; intro v6 w6 hown6 hgrow6 hfr6; replace hown6 : w6.ownsRow w.heap.size 3 1 v6 (F.length + 1) (elInt.cells (F ++ [(k : Int)])) := hown6; obtain ⟨y1, y2, y3, y4, y5⟩ := FX.out _ _ _ _ hown6 hgrow6 hfr6; obtain ⟨ao6, cap6, rfl, _⟩ := own_formq hown6; have Z := hidq (ZN.out.same (y5 wr.heap.size (by simp) (by omega) ZN.out.ty)); have z1 := Z.out.cells.1; dsimp only at z1; have N6 := hidq y3; have B6 := hidq ((below_one HB.out).trans (y4.below (fun _ h => h) (by simp; omega))); clear y3 y4 y5 hown6 hgrow6 hfr6))
        generalize w6.setCell _ _ = W1 at *
        (obtain ⟨x', cx2, ox2, fx2⟩ := (N6.out.below (Below.refl _ _).drew).more han; have cx3 : W1.cell? ⟨w.heap.size, a, none⟩ = _ := cx2; have z2 := Z.out.cells.2.1; have hBt := Z.out.lt; have hg1 := N6.out.block.2; have hl2 : (M.app1 F0 k k a).length ≤ 3 * k + 1 := (by have := hlen a; unfold M.app1; split <;> simp <;> omega); generalize M.app1 F0 k k a = Fa at *; have OX2 := hidq ox2; have FX2 := hidq fx2; clear ox2 fx2 cx2 cx cx' y1 y2; dsimp only at z2)
        go_cut [] (fun wx => Nst wx w.heap.size w.heap.size n (M.app1 (M.app1 F0 k k) a k) ∧ Bx3 wx wr.heap.size (tk, (a : Int), 0) ∧ Below w.heap.size w wx)
        case first =>
          go_region_law (first | (refine step_append_fr (E := elInt) rfl _ _ rfl w.heap.size _ _ Fa rfl (OX2.out.alloc _) _ [(k : Int)] rfl (is_oneq _ _ (by simp) _ HFK.out) (by simp only [List.length_cons, List.length_nil]; omega) (by simp; omega) ?_; intro v7 w7 hown7 hgrow7 hfr7; replace hown7 : w7.ownsRow w.heap.size 3 1 v7 (Fa.length + 1) (elInt.cells (Fa ++ [(k : Int)])) := hown7; obtain ⟨y6, y7, y8, y9, y10⟩ := FX2.out _ _ _ _ hown7 hgrow7 hfr7; obtain ⟨ao7, cap7, rfl, _⟩ := own_formq hown7; have Z7 := hidq (Z.out.drew.same (y10 wr.heap.size hBt (by omega) Z.out.drew.ty)); have z4 := Z7.out.cells.1; dsimp only at z4; have z6 := (Z7.out.same (heap_setCell_other w7 ⟨w.heap.size, _, none⟩ wr.heap.size _ (show wr.heap.size ≠ w.heap.size by omega)).symm).cells.2.1; dsimp only at z6; have N7 := hidq y8; have B7 := hidq (B6.out.drew.trans (y9.below (fun _ h => h) (show w.heap.size ≤ W1.heap.size by omega))); clear y8 y9 y10 hown7 hgrow7 hfr7))
          all_goals go_wp2
          all_goals go_meet
          all_goals exact ⟨N7.out, Z7.out, B7.out⟩
        case rest =>
          obtain ⟨n7, z7, b7⟩ := hcut
          have N7 := hidq n7
          have B7 := hidq b7
          have z8 := z7.cells.1
          dsimp only at z8
          clear n7 b7 z7 hBt z1
          go_wp2
          go_roundw
          case rel => exact ⟨k + 1, by omega, by go_num, by rw [HF2.out]; exact N7.out, B7.out⟩
          case measure => simp [intOf]; omega
      · dsimp only at k1 k2 k3 k4 k5
        obtain ⟨a, rfl⟩ : ∃ a : Nat, ta = a := ⟨ta.toNat, by omega⟩
        obtain ⟨b, rfl⟩ : ∃ b : Nat, tb = b := ⟨tb.toNat, by omega⟩
        subst k1
        have ZN := hidq (Bx3.new wr (5, (a : Int), (b : Int)))
        have HF2 := hidq (show M.nrF A (k + 1) = M.app1 (M.app1 (M.app1 F0 k k) a k) b k by rw [HF1.out, M.parts_2 rfl]; rfl)
        have han : a < n := by omega
        have hai : (a : Int) < n := by omega
        have hbn : b < n := by omega
        have hbi : (b : Int) < n := by omega
        clear hm HF1
        go_wp2_with (first | (at_builtin; refine wpList_append_fr (E := elInt) rfl _ _ rfl w.heap.size _ _ F rfl (OX.out.alloc _) _ [(k : Int)] rfl (is_oneq _ _ (by simp) _ HFK.out) (by simp only [List.length_cons, List.length_nil]; omega) (by simp; omega) ?_; intro v6 w6 hown6 hgrow6 hfr6; replace hown6 : w6.ownsRow w.heap.size 3 1 v6 (F.length + 1) (elInt.cells (F ++ [(k : Int)])) := hown6; obtain ⟨y1, y2, y3, y4, y5⟩ := FX.out _ _ _ _ hown6 hgrow6 hfr6; obtain ⟨ao6, cap6, rfl, _⟩ := own_formq hown6; have Z := hidq (ZN.out.same (y5 wr.heap.size (by simp) (by omega) ZN.out.ty)); have z1 := Z.out.cells.1; dsimp only at z1; have N6 := hidq y3; have B6 := hidq ((below_one HB.out).trans (y4.below (fun _ h => h) (by simp; omega))); clear y3 y4 y5 hown6 hgrow6 hfr6))
        generalize w6.setCell _ _ = W1 at *
        (obtain ⟨x', cx2, ox2, fx2⟩ := (N6.out.below (Below.refl _ _).drew).more han; have cx3 : W1.cell? ⟨w.heap.size, a, none⟩ = _ := cx2; have z2 := Z.out.cells.2.1; have hBt := Z.out.lt; have hg1 := N6.out.block.2; have hl2 : (M.app1 F0 k k a).length ≤ 3 * k + 1 := (by have := hlen a; unfold M.app1; split <;> simp <;> omega); generalize M.app1 F0 k k a = Fa at *; have OX2 := hidq ox2; have FX2 := hidq fx2; clear ox2 fx2 cx2 cx cx' y1 y2; dsimp only at z2)
        go_cut [] (fun wx => Nst wx w.heap.size w.heap.size n (M.app1 (M.app1 F0 k k) a k) ∧ Bx3 wx wr.heap.size (5, (a : Int), (b : Int)) ∧ Below w.heap.size w wx)
        case first =>
          go_region_law (first | (refine step_append_fr (E := elInt) rfl _ _ rfl w.heap.size _ _ Fa rfl (OX2.out.alloc _) _ [(k : Int)] rfl (is_oneq _ _ (by simp) _ HFK.out) (by simp only [List.length_cons, List.length_nil]; omega) (by simp; omega) ?_; intro v7 w7 hown7 hgrow7 hfr7; replace hown7 : w7.ownsRow w.heap.size 3 1 v7 (Fa.length + 1) (elInt.cells (Fa ++ [(k : Int)])) := hown7; obtain ⟨y6, y7, y8, y9, y10⟩ := FX2.out _ _ _ _ hown7 hgrow7 hfr7; obtain ⟨ao7, cap7, rfl, _⟩ := own_formq hown7; have Z7 := hidq (Z.out.drew.same (y10 wr.heap.size hBt (by omega) Z.out.drew.ty)); have z4 := Z7.out.cells.1; dsimp only at z4; have z6 := (Z7.out.same (heap_setCell_other w7 ⟨w.heap.size, _, none⟩ wr.heap.size _ (show wr.heap.size ≠ w.heap.size by omega)).symm).cells.2.1; dsimp only at z6; have N7 := hidq y8; have B7 := hidq (B6.out.drew.trans (y9.below (fun _ h => h) (show w.heap.size ≤ W1.heap.size by omega))); clear y8 y9 y10 hown7 hgrow7 hfr7))
          all_goals go_wp2
          all_goals go_meet
          all_goals exact ⟨N7.out, Z7.out, B7.out⟩
        case rest =>
          obtain ⟨n7, z7, b7⟩ := hcut
          have N8 := hidq n7
          have B8 := hidq b7
          have Z8 := hidq z7
          have z8 := z7.cells.1
          dsimp only at z8
          clear n7 b7 z7 hBt z1 N6 B6 Z FX2 OX2 cx3 z2
          generalize hW2 : wc = W2 at *
          go_wp2
          (obtain ⟨x', cx2, ox2, fx2⟩ := (N8.out.below (Below.refl _ _).drew).more hbn; have cx4 : W2.cell? ⟨w.heap.size, b, none⟩ = _ := cx2; have z9 := Z8.out.cells.2.2; have hBt2 := Z8.out.lt; have hg2 := N8.out.block.2; have hs2 : w.heap.size ≤ W2.heap.size := (by omega); have hl3 : (M.app1 (M.app1 F0 k k) a k b).length ≤ 3 * k + 2 := (by have := hlen b; unfold M.app1; split <;> (try split) <;> simp <;> omega); generalize M.app1 (M.app1 F0 k k) a k b = Fb at *; have OX3 := hidq ox2; have FX3 := hidq fx2; clear ox2 fx2 cx2; dsimp only at z9)
          go_region_law (first | (refine step_append_fr (E := elInt) rfl _ _ rfl w.heap.size _ _ Fb rfl (OX3.out.alloc _) _ [(k : Int)] rfl (is_oneq _ _ (by simp) _ HFK.out) (by simp only [List.length_cons, List.length_nil]; omega) (by simp; omega) ?_; intro v7 w7 hown7 hgrow7 hfr7; replace hown7 : w7.ownsRow w.heap.size 3 1 v7 (Fb.length + 1) (elInt.cells (Fb ++ [(k : Int)])) := hown7; obtain ⟨y6, y7, y8, y9, y10⟩ := FX3.out _ _ _ _ hown7 hgrow7 hfr7; obtain ⟨ao7, cap7, rfl, _⟩ := own_formq hown7; have Z9 := hidq (Z8.out.drew.same (y10 wr.heap.size hBt2 (by omega) Z8.out.drew.ty)); have z4 := Z9.out.cells.1; dsimp only at z4; have z6 := (Z9.out.same (heap_setCell_other w7 ⟨w.heap.size, _, none⟩ wr.heap.size _ (show wr.heap.size ≠ w.heap.size by omega)).symm).cells.2.2; dsimp only at z6; have N9 := hidq y8; have B9 := hidq (B8.out.drew.trans (y9.below (fun _ h => h) (show w.heap.size ≤ W2.heap.size by omega))); clear y8 y9 y10 hown7 hgrow7 hfr7))
          all_goals go_wp2
          all_goals go_roundw
          all_goals first | exact ⟨k + 1, by omega, by go_num, by rw [HF2.out]; exact N9.out, B9.out⟩ | (simp [intOf]; omega)
    · obtain rfl : k = n := by omega
      have HNS := hidq hNs
      clear hNs hb
      go_wp2
      go_ret
      exact ⟨_, rfl, HNS.out, HB.out⟩
end Go.Proofs.Ythkkclhjpgkhaaa
