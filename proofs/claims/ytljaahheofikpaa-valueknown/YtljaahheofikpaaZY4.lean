/-
  What near comes to. Conditions: the slice holds terms that may be.
-/
import Derived.Test.YtljaahheofikpaaZNL
import Derived.Test.YtljaahheofikpaaZNX
import Derived.Deep.DeepCutAuto
namespace Go.Proofs.Ytljaahheofikpaa
open Go.RowKit
theorem Try.infoSlz : (Try.prog.info? 48).map (fun i => (i.zero, i.size, i.bytes)) = some (some (.slice none 0 0), 1, 24) := by kernel_rfl
theorem Nst.start {W : World} {base ga n : Nat} (h : W.ownsRow base 48 1 (.slice (some ⟨ga, 0, none⟩) n n) n (elSl.cells (List.replicate n (none, 0, 0)))) : Nst W base ga n (fun _ => []) := by
  refine ⟨List.replicate n (none, 0, 0), by simp, h, fun j x hx => ?_, fun i j x y hx hy _ k hk => ?_⟩
  · rw [List.getElem?_replicate] at hx
    split at hx
    · cases hx; exact World.ownsRow_nil _ _ _ _
    · cases hx
  · rw [List.getElem?_replicate] at hx
    split at hx
    · cases hx; cases hk
    · cases hx
theorem Bx3.same {W W' : World} {B : Nat} {t : M.Tm} (h : Bx3 W B t) (e : W'.heap[B]? = W.heap[B]?) : Bx3 W' B t := e.trans h
theorem Bx3.ty {W : World} {B : Nat} {t : M.Tm} (h : Bx3 W B t) : ∀ z e cs, W.heap[B]? = some (.cells cs e z) → e ≠ 3 := fun z e cs he => by
  rw [show W.heap[B]? = _ from h] at he
  cases he
  decide
theorem Bx3.drew {W : World} {B : Nat} {t : M.Tm} (h : Bx3 W B t) : Bx3 W.drew B t := h
set_option maxRecDepth 100000 in
set_option maxHeartbeats 4000000 in
theorem near_any (A : List M.Tm) (hA : M.Ok A) (n : Nat) (v : Value) (w : World) (u : Ts w v A) (hn : A.length = n) :
    Calls Try.prog 75 #[v] w fun e w' => ∃ ga, e = .returned (.slice (some ⟨ga, 0, none⟩) n n) ∧ Nst w' w.heap.size ga n (M.nrF A n) ∧ Below w.heap.size w w' := by
  obtain ⟨at1, ct, rfl, hp1, hp2, hp4⟩ := u.form
  have hl := hA.1
  have U := hidq (fun X (hb : Below w.heap.size w X) => u.below hb)
  have HP4 := hidq hp4
  have HA := hidq hA
  have HN := hidq hn
  clear u hA hp4
  rw [hn] at hl hp1 U ⊢
  clear hn
  obtain ⟨i0, hi, hz0, hz1, hz2⟩ := info_partsq Try.infoSlz
  go_enter Try.func75, Try.ntmps75
  go_wp2_with (first | (at_make; refine wpList_make_full _ rfl _ _ 99 rfl w.heap.size 48 i0 (.slice none 0 0) 1 Try.underlying99 hi hz0 hz1 _ _ _ _ n rfl rfl (by first | rfl | omega) (by first | rfl | omega) ?b2 ?b3 (Nat.le_refl _) ?_))
  case b2 => (try rw [hz2]); omega
  case b3 => unfold maxLen; omega
  intro w2 hown hgrow
  have hB2 : Below w.heap.size w w2 := (Below.refl _ _).grown hgrow (Nat.le_refl _) (fun k hk => by cases hk)
  replace hown : w2.ownsRow w.heap.size 48 1 (.slice (some ⟨w.heap.size, 0, none⟩) n n) n (elSl.cells (List.replicate n (none, 0, 0))) := by rw [← elSl_zeros]; simpa using hown
  have hN2 := Nst.start hown
  have HS := hidq (⟨hN2, hB2⟩ : Nst w2 w.heap.size w.heap.size n (fun _ => []) ∧ Below w.heap.size w w2)
  clear hown hgrow hN2 hB2
  go_wp2
  go_loopw [11] (fun x wr => ∃ k : Nat, k ≤ n ∧ x = .int .i64 k ∧ Nst wr w.heap.size w.heap.size n (M.nrF A k) ∧ Below w.heap.size w wr) (fun x _ => n - (intOf x).toNat)
  case atStart => exact ⟨0, by omega, rfl, HS.out.1, HS.out.2⟩
  case round =>
    obtain ⟨k, hk, rfl, hNs, hb⟩ := hrel
    have HB := hidq hb
    have hsz := hb.size
    clear HS
    by_cases hlt : k < n
    · obtain ⟨bt, ot, rfl⟩ := HP4.out (by omega)
      have hki : (k : Int) < n := by omega
      have HFK := hidq (show M.fitI (k : Int) from ⟨by omega, by omega⟩)
      obtain ⟨x1, x2, x3⟩ := Ts.cell (U.out _ hb) (k := k) (by rw [HN.out]; exact hlt)
      have hm := (HA.out.2 k (by rw [HN.out]; exact hlt)).1
      have HF1 := hidq (show M.nrF A (k + 1) = ((k : Int) :: M.parts (M.at_ A k)).foldl (fun F p => M.app1 F p.toNat k) (M.nrF A k) from rfl)
      have hlen := M.nrF_len A k
      obtain ⟨⟨tk, ta, tb⟩, ht⟩ : ∃ t, M.at_ A k = t := ⟨_, rfl⟩
      rw [ht] at x1 x2 x3 hm HF1
      clear ht
      dsimp only at x1 x2 x3
      have hgl := hNs.block.2
      generalize hF0 : M.nrF A k = F0 at *
      obtain ⟨x, cx, ox, fx⟩ := (hNs.below ((Below.refl _ _).alloc (Nat.le_refl _) (.cells #[.int .i64 tk, .int .i64 ta, .int .i64 tb] 41))).more hlt
      have OX := hidq ox
      have FX := hidq fx
      have hl1 := hlen k
      clear hNs hb ox fx hF0
      have cx' : (wr.alloc (.cells #[.int .i64 tk, .int .i64 ta, .int .i64 tb] 41)).cell? ⟨w.heap.size, k, none⟩ = _ := cx
      obtain ⟨F, hF⟩ : ∃ F, F0 k = F := ⟨_, rfl⟩
      rw [hF] at OX FX hl1
      rcases M.may_kind hm with ⟨k1, k2, k3, k4⟩ | ⟨k1, k2, k3, k4⟩ | ⟨k1, k2, k3, k4, k5⟩
      · dsimp only at k1 k4
        subst k1
        subst k4
        have ZN := hidq (Bx3.new wr (1, ta, 0))
        have HF2 := hidq (show M.nrF A (k + 1) = M.app1 F0 k k by rw [HF1.out, M.parts_0 (by simp) (by simp) (by simp) (by simp)]; rfl)
        clear hm HF1
        go_wp2_with (first | (at_builtin; refine wpList_append_fr (E := elInt) rfl _ _ rfl w.heap.size _ _ F rfl (OX.out.alloc _) _ [(k : Int)] rfl (is_oneq _ _ (by simp) _ HFK.out) (by simp only [List.length_cons, List.length_nil]; omega) (by simp; omega) ?_; intro v6 w6 hown6 hgrow6 hfr6; replace hown6 : w6.ownsRow w.heap.size 3 1 v6 (F.length + 1) (elInt.cells (F ++ [(k : Int)])) := hown6; obtain ⟨y1, y2, y3, y4, y5⟩ := FX.out _ _ _ _ hown6 hgrow6 hfr6; obtain ⟨ao6, cap6, rfl, _⟩ := own_formq hown6; have Z := hidq (ZN.out.same (y5 wr.heap.size (by simp) (by omega) ZN.out.ty)); have z1 := Z.out.cells.1; dsimp only at z1; have N6 := hidq y3; have B6 := hidq ((below_one HB.out).trans (y4.below (fun _ h => h) (by simp; omega))); clear y3 y4 y5 hown6 hgrow6 hfr6))
        go_roundw
        case rel => exact ⟨k + 1, by omega, by go_num, by rw [HF2.out]; exact N6.out, B6.out⟩
        case measure => simp [intOf]; omega
      · dsimp only at k1 k2 k3 k4
        obtain ⟨a, rfl⟩ : ∃ a : Nat, ta = a := ⟨ta.toNat, by omega⟩
        subst k4
        have ZN := hidq (Bx3.new wr (tk, (a : Int), 0))
        have HF2 := hidq (show M.nrF A (k + 1) = M.app1 (M.app1 F0 k k) a k by rw [HF1.out, M.parts_1 k1]; rfl)
        have han : a < n := by omega
        have hai : (a : Int) < n := by omega
        have t1 : ¬ tk = 1 := by omega
        have t5 : ¬ tk = 5 := by omega
        clear hm HF1 k1
        go_wp2_with (first | (at_builtin; refine wpList_append_fr (E := elInt) rfl _ _ rfl w.heap.size _ _ F rfl (OX.out.alloc _) _ [(k : Int)] rfl (is_oneq _ _ (by simp) _ HFK.out) (by simp only [List.length_cons, List.length_nil]; omega) (by simp; omega) ?_; intro v6 w6 hown6 hgrow6 hfr6; replace hown6 : w6.ownsRow w.heap.size 3 1 v6 (F.length + 1) (elInt.cells (F ++ [(k : Int)])) := hown6; obtain ⟨y1, y2, y3, y4, y5⟩ := FX.out _ _ _ _ hown6 hgrow6 hfr6; obtain ⟨ao6, cap6, rfl, _⟩ := own_formq hown6; have Z := hidq (ZN.out.same (y5 wr.heap.size (by simp) (by omega) ZN.out.ty)); have z1 := Z.out.cells.1; dsimp only at z1; have N6 := hidq y3; have B6 := hidq ((below_one HB.out).trans (y4.below (fun _ h => h) (by simp; omega))); clear y3 y4 y5 hown6 hgrow6 hfr6))
        generalize w6.setCell _ _ = W1 at *
        (obtain ⟨x', cx2, ox2, fx2⟩ := (N6.out.below (Below.refl _ _).drew).more han; have cx3 : W1.cell? ⟨w.heap.size, a, none⟩ = _ := cx2; have z2 := Z.out.cells.2.1; have hBt := Z.out.lt; have hg1 := N6.out.block.2; have hl2 : (M.app1 F0 k k a).length ≤ 3 * k + 1 := (by have := hlen a; unfold M.app1; split <;> simp <;> omega); generalize M.app1 F0 k k a = Fa at *; have OX2 := hidq ox2; have FX2 := hidq fx2; clear ox2 fx2 cx2 cx cx' y1 y2; dsimp only at z2)
        go_cut [] (fun wx => Nst wx w.heap.size w.heap.size n (M.app1 (M.app1 F0 k k) a k) ∧ Bx3 wx wr.heap.size (tk, (a : Int), 0) ∧ Below w.heap.size w wx)
        case first =>
          go_region_law (first | (refine step_append_fr (E := elInt) rfl _ _ rfl w.heap.size _ _ Fa rfl (OX2.out.alloc _) _ [(k : Int)] rfl (is_oneq _ _ (by simp) _ HFK.out) (by simp only [List.length_cons, List.length_nil]; omega) (by simp; omega) ?_; intro v7 w7 hown7 hgrow7 hfr7; replace hown7 : w7.ownsRow w.heap.size 3 1 v7 (Fa.length + 1) (elInt.cells (Fa ++ [(k : Int)])) := hown7; obtain ⟨y6, y7, y8, y9, y10⟩ := FX2.out _ _ _ _ hown7 hgrow7 hfr7; obtain ⟨ao7, cap7, rfl, _⟩ := own_formq hown7; have Z7 := hidq (Z.out.drew.same (y10 wr.heap.size hBt (by omega) Z.out.drew.ty)); have z4 := Z7.out.cells.1; dsimp only at z4; have z6 := (Z7.out.same (heap_setCell_other w7 ⟨w.heap.size, _, none⟩ wr.heap.size _ (show wr.heap.size ≠ w.heap.size by omega)).symm).cells.2.1; dsimp only at z6; have N7 := hidq y8; have B7 := hidq (B6.out.drew.trans (y9.below (fun _ h => h) (show w.heap.size ≤ W1.heap.size by omega))); clear y8 y9 y10 hown7 hgrow7 hfr7))
          all_goals go_wp2
          all_goals go_meet
          all_goals exact ⟨N7.out, Z7.out, B7.out⟩
        case rest =>
          obtain ⟨n7, z7, b7⟩ := hcut
          have N7 := hidq n7
          have B7 := hidq b7
          have z8 := z7.cells.1
          dsimp only at z8
          clear n7 b7 z7 hBt z1
          go_wp2
          go_roundw
          case rel => exact ⟨k + 1, by omega, by go_num, by rw [HF2.out]; exact N7.out, B7.out⟩
          case measure => simp [intOf]; omega
      · dsimp only at k1 k2 k3 k4 k5
        obtain ⟨a, rfl⟩ : ∃ a : Nat, ta = a := ⟨ta.toNat, by omega⟩
        obtain ⟨b, rfl⟩ : ∃ b : Nat, tb = b := ⟨tb.toNat, by omega⟩
        subst k1
        have ZN := hidq (Bx3.new wr (5, (a : Int), (b : Int)))
        have HF2 := hidq (show M.nrF A (k + 1) = M.app1 (M.app1 (M.app1 F0 k k) a k) b k by rw [HF1.out, M.parts_2 rfl]; rfl)
        have han : a < n := by omega
        have hai : (a : Int) < n := by omega
        have hbn : b < n := by omega
        have hbi : (b : Int) < n := by omega
        clear hm HF1
        go_wp2_with (first | (at_builtin; refine wpList_append_fr (E := elInt) rfl _ _ rfl w.heap.size _ _ F rfl (OX.out.alloc _) _ [(k : Int)] rfl (is_oneq _ _ (by simp) _ HFK.out) (by simp only [List.length_cons, List.length_nil]; omega) (by simp; omega) ?_; intro v6 w6 hown6 hgrow6 hfr6; replace hown6 : w6.ownsRow w.heap.size 3 1 v6 (F.length + 1) (elInt.cells (F ++ [(k : Int)])) := hown6; obtain ⟨y1, y2, y3, y4, y5⟩ := FX.out _ _ _ _ hown6 hgrow6 hfr6; obtain ⟨ao6, cap6, rfl, _⟩ := own_formq hown6; have Z := hidq (ZN.out.same (y5 wr.heap.size (by simp) (by omega) ZN.out.ty)); have z1 := Z.out.cells.1; dsimp only at z1; have N6 := hidq y3; have B6 := hidq ((below_one HB.out).trans (y4.below (fun _ h => h) (by simp; omega))); clear y3 y4 y5 hown6 hgrow6 hfr6))
        generalize w6.setCell _ _ = W1 at *
        (obtain ⟨x', cx2, ox2, fx2⟩ := (N6.out.below (Below.refl _ _).drew).more han; have cx3 : W1.cell? ⟨w.heap.size, a, none⟩ = _ := cx2; have z2 := Z.out.cells.2.1; have hBt := Z.out.lt; have hg1 := N6.out.block.2; have hl2 : (M.app1 F0 k k a).length ≤ 3 * k + 1 := (by have := hlen a; unfold M.app1; split <;> simp <;> omega); generalize M.app1 F0 k k a = Fa at *; have OX2 := hidq ox2; have FX2 := hidq fx2; clear ox2 fx2 cx2 cx cx' y1 y2; dsimp only at z2)
        go_cut [] (fun wx => Nst wx w.heap.size w.heap.size n (M.app1 (M.app1 F0 k k) a k) ∧ Bx3 wx wr.heap.size (5, (a : Int), (b : Int)) ∧ Below w.heap.size w wx)
        case first =>
          go_region_law (first | (refine step_append_fr (E := elInt) rfl _ _ rfl w.heap.size _ _ Fa rfl (OX2.out.alloc _) _ [(k : Int)] rfl (is_oneq _ _ (by simp) _ HFK.out) (by simp only [List.length_cons, List.length_nil]; omega) (by simp; omega) ?_; intro v7 w7 hown7 hgrow7 hfr7; replace hown7 : w7.ownsRow w.heap.size 3 1 v7 (Fa.length + 1) (elInt.cells (Fa ++ [(k : Int)])) := hown7; obtain ⟨y6, y7, y8, y9, y10⟩ := FX2.out _ _ _ _ hown7 hgrow7 hfr7; obtain ⟨ao7, cap7, rfl, _⟩ := own_formq hown7; have Z7 := hidq (Z.out.drew.same (y10 wr.heap.size hBt (by omega) Z.out.drew.ty)); have z4 := Z7.out.cells.1; dsimp only at z4; have z6 := (Z7.out.same (heap_setCell_other w7 ⟨w.heap.size, _, none⟩ wr.heap.size _ (show wr.heap.size ≠ w.heap.size by omega)).symm).cells.2.1; dsimp only at z6; have N7 := hidq y8; have B7 := hidq (B6.out.drew.trans (y9.below (fun _ h => h) (show w.heap.size ≤ W1.heap.size by omega))); clear y8 y9 y10 hown7 hgrow7 hfr7))
          all_goals go_wp2
          all_goals go_meet
          all_goals exact ⟨N7.out, Z7.out, B7.out⟩
        case rest =>
          obtain ⟨n7, z7, b7⟩ := hcut
          have N8 := hidq n7
          have B8 := hidq b7
          have Z8 := hidq z7
          have z8 := z7.cells.1
          dsimp only at z8
          clear n7 b7 z7 hBt z1 N6 B6 Z FX2 OX2 cx3 z2
          generalize hW2 : wc = W2 at *
          go_wp2
          (obtain ⟨x', cx2, ox2, fx2⟩ := (N8.out.below (Below.refl _ _).drew).more hbn; have cx4 : W2.cell? ⟨w.heap.size, b, none⟩ = _ := cx2; have z9 := Z8.out.cells.2.2; have hBt2 := Z8.out.lt; have hg2 := N8.out.block.2; have hs2 : w.heap.size ≤ W2.heap.size := (by omega); have hl3 : (M.app1 (M.app1 F0 k k) a k b).length ≤ 3 * k + 2 := (by have := hlen b; unfold M.app1; split <;> (try split) <;> simp <;> omega); generalize M.app1 (M.app1 F0 k k) a k b = Fb at *; have OX3 := hidq ox2; have FX3 := hidq fx2; clear ox2 fx2 cx2; dsimp only at z9)
          go_region_law (first | (refine step_append_fr (E := elInt) rfl _ _ rfl w.heap.size _ _ Fb rfl (OX3.out.alloc _) _ [(k : Int)] rfl (is_oneq _ _ (by simp) _ HFK.out) (by simp only [List.length_cons, List.length_nil]; omega) (by simp; omega) ?_; intro v7 w7 hown7 hgrow7 hfr7; replace hown7 : w7.ownsRow w.heap.size 3 1 v7 (Fb.length + 1) (elInt.cells (Fb ++ [(k : Int)])) := hown7; obtain ⟨y6, y7, y8, y9, y10⟩ := FX3.out _ _ _ _ hown7 hgrow7 hfr7; obtain ⟨ao7, cap7, rfl, _⟩ := own_formq hown7; have Z9 := hidq (Z8.out.drew.same (y10 wr.heap.size hBt2 (by omega) Z8.out.drew.ty)); have z4 := Z9.out.cells.1; dsimp only at z4; have z6 := (Z9.out.same (heap_setCell_other w7 ⟨w.heap.size, _, none⟩ wr.heap.size _ (show wr.heap.size ≠ w.heap.size by omega)).symm).cells.2.2; dsimp only at z6; have N9 := hidq y8; have B9 := hidq (B8.out.drew.trans (y9.below (fun _ h => h) (show w.heap.size ≤ W2.heap.size by omega))); clear y8 y9 y10 hown7 hgrow7 hfr7))
          all_goals go_wp2
          all_goals go_roundw
          all_goals first | exact ⟨k + 1, by omega, by go_num, by rw [HF2.out]; exact N9.out, B9.out⟩ | (simp [intOf]; omega)
    · obtain rfl : k = n := by omega
      have HNS := hidq hNs
      clear hNs hb
      go_wp2
      go_ret
      exact ⟨_, rfl, HNS.out, HB.out⟩
end Go.Proofs.Ytljaahheofikpaa
namespace Go.Proofs.Ytljaahheofikpaa
open Go.RowKit
namespace M
/-- a chain all of whose first q have been looked at -/
def LI (A : List Tm) (H : List Int) (n q : Nat) (D : List Int) : Prop :=
  Chn A H D ∧ Gd n D ∧ (∀ h ∈ H, h ∈ D) ∧ (∀ j, Pl A j → Fol A (· ∈ D.take q) j → j ∈ D) ∧ q ≤ D.length
/-- .. and of those near the next one the first r -/
def LJ (A : List Tm) (H : List Int) (n q : Nat) (D N : List Int) (r : Nat) (D1 : List Int) : Prop :=
  Chn A H D1 ∧ Gd n D1 ∧ (∃ E, D1 = D ++ E) ∧ ∀ r', r' < r → ∀ k, N[r']? = some k → ∀ x ∈ tell A (D.take (q + 1)) k.toNat, x ∈ D1
theorem LI.start {A : List Tm} {H D : List Int} {n : Nat} (hc : Chn A H D) (hg : Gd n D) (hH : ∀ h ∈ H, h ∈ D) : LI A H n 0 D := by
  refine ⟨hc, hg, hH, fun j _ hf => ?_, Nat.zero_le _⟩
  rw [List.take_zero] at hf
  rcases hf with ⟨_, b⟩ | ⟨_, b, _⟩ | ⟨_, a, _⟩
  · cases b
  · cases b
  · cases a
theorem LI.done {A : List Tm} {H D : List Int} {n q : Nat} (hn : A.length = n) (h : LI A H n q D) (hq : q = D.length) (x : Int) : x ∈ D ↔ Kn A H x := by
  subst hq
  obtain ⟨h1, h2, h3, h4, _⟩ := h
  rw [List.take_length] at h4
  exact known_of (fun x hx => by have := h2.2 x hx; exact ⟨this.1, by omega⟩) h1 h3 h4 x
theorem LJ.start {A : List Tm} {H D N : List Int} {n q : Nat} (h : LI A H n q D) : LJ A H n q D N 0 D := ⟨h.1, h.2.1, ⟨[], by simp⟩, fun _ h => by omega⟩
theorem LJ.next {A : List Tm} (hA : Ok A) {H D N D1 : List Int} {n q r k : Nat} (hn : A.length = n) (h : LJ A H n q D N r D1) (hk : N[r]? = some (k : Int)) (hkn : k < n) : LJ A H n q D N (r + 1) (lrn D1 (tell A D1 k)) := by
  obtain ⟨h1, h2, ⟨E, h3⟩, h4⟩ := h
  have hf := fun x hx => tell_fol hA (D := D1) (k := k) (by omega) (x := x) hx
  obtain ⟨E', h5⟩ := lrn_more (tell A D1 k) D1
  refine ⟨h1.lrn fun x hx => .inr (hf x hx).1, h2.lrn fun x hx => by have := (hf x hx).2; exact ⟨this.1, by omega⟩, ⟨E ++ E', by rw [h5, h3, List.append_assoc]⟩, fun r' hr j hj x hx => ?_⟩
  rw [lrn_mem]
  rcases Nat.lt_or_ge r' r with h | h
  · exact .inl (h4 r' h j hj x hx)
  · obtain rfl : r' = r := by omega
    rw [hk] at hj
    cases hj
    exact .inr (tell_mono (fun y hy => by rw [h3]; exact List.mem_append_left _ (List.mem_of_mem_take hy)) hx)
theorem LI.next {A : List Tm} {H D N D1 : List Int} {n q r p : Nat} (hn : A.length = n) (h : LI A H n q D) (h' : LJ A H n q D N r D1) (hp : D[q]? = some (p : Int)) (hr : r = N.length) (hN : N = nrF A n p) : LI A H n (q + 1) D1 := by
  obtain ⟨_, g2, g3, g4, _⟩ := h
  obtain ⟨h1, h2, ⟨E, h3⟩, h4⟩ := h'
  obtain ⟨hq, e⟩ := List.getElem?_eq_some_iff.1 hp
  have ht : D1.take (q + 1) = D.take q ++ [(p : Int)] := by rw [h3, List.take_append_of_le_length (by omega), List.take_succ_eq_append_getElem hq, e]
  have ht' : D.take (q + 1) = D.take q ++ [(p : Int)] := by rw [List.take_succ_eq_append_getElem hq, e]
  have hpl : ∀ x ∈ D.take q ++ [(p : Int)], Pl A x := fun x hx => by
    rw [← ht'] at hx
    have := g2.2 x (List.mem_of_mem_take hx)
    exact ⟨this.1, by omega⟩
  refine ⟨h1, h2, fun x hx => by rw [h3]; exact List.mem_append_left _ (g3 x hx), fun j hj hf => ?_, by rw [h3, List.length_append]; omega⟩
  rw [ht] at hf
  rcases fol_near hpl hj hf with h | ⟨k, hk, hm, hx⟩
  · rw [h3]; exact List.mem_append_left _ (g4 j hj h)
  · have hk2 : (k : Int) ∈ N := by rw [hN]; exact nrF_mem A hm n (by omega)
    obtain ⟨r', hr', e'⟩ := List.getElem_of_mem hk2
    refine h4 r' (by omega) k (by rw [List.getElem?_eq_getElem hr', e']) j ?_
    rw [ht']
    exact hx
end M
theorem Nst.row {W : World} {base ga n : Nat} {F : Nat → List Int} (h : Nst W base ga n F) {p : Nat} (hp : p < n) : ∃ ao cap, W.cell? ⟨ga, p, none⟩ = some (.slice ao (F p).length cap) ∧ W.ownsRow base 3 1 (.slice ao (F p).length cap) (F p).length (elInt.cells (F p)) := by
  obtain ⟨x, h1, h2⟩ := h.at hp
  obtain ⟨ao, cap, e, _⟩ := own_formq h2
  rw [e] at h1 h2
  exact ⟨ao, cap, h1, h2⟩
/-- two times of memory between which nothing is the mind's -/
theorem Mind.gap {W W' : World} {T : Nat → Prop} {s B : Nat} {vt : Value} {n : Nat} {D : List Int} (h : Mind W T s B vt n D) (hb : Below W.heap.size W W') : Mind W' (fun i => T i ∧ (i < W.heap.size ∨ W'.heap.size ≤ i)) s B vt n D :=
  (h.mono (T' := fun i => T i ∧ (i < W.heap.size ∨ W'.heap.size ≤ i)) fun _ h1 h2 => ⟨h1, .inl h2⟩).below hb
theorem Is.of_ownq {W : World} {base : Nat} {v : Value} {L : List Int} {n : Nat} (h : W.ownsRow base 3 1 v L.length (elInt.cells L)) (hn : n ≤ 65536) (hL : ∀ x ∈ L, 0 ≤ x ∧ x < (n : Int)) : Is W v L := Sl.of_own (E := elInt) h fun x hx => by have := hL x hx; exact ⟨by omega, by omega⟩
set_option maxRecDepth 100000 in
set_option maxHeartbeats 4000000 in
theorem learnAll_any (A : List M.Tm) (hA : M.Ok A) (H : List Int) (T : Nat → Prop) (s B : Nat) (vt : Value) (n : Nat) (D0 : List Int) (w : World) (hn : A.length = n) (hM : Mind w T s B vt n D0) (hT : ∀ i, w.heap.size ≤ i → T i) (hs : s ≤ w.heap.size)
    (u : ∀ X, Outs T w X → Ts X vt A) (hc : M.Chn A H D0) (hg : M.Gd n D0) (hH : ∀ h ∈ H, h ∈ D0) :
    Calls Try.prog 53 #[.pointer (some ⟨B, 0, none⟩)] w fun e w' => e = .returned (.tuple #[]) ∧ ∃ D, Mind w' T s B vt n D ∧ M.Chn A H D ∧ M.Gd n D ∧ (∀ x, x ∈ D ↔ M.Kn A H x) ∧ Outs T w w' := by
  have hl := hA.1
  rw [hn] at hl
  have HA := hidq hA
  have HN := hidq hn
  have HM := hidq hM
  have HT := hidq hT
  have U := hidq u
  have HL0 := hidq (M.LI.start hc hg hH)
  have q0 : w.cell? ⟨B, 0, none⟩ = some vt := by obtain ⟨g, vo, h1, _⟩ := hM; exact h1.cell 0
  obtain ⟨at1, ct, evt, hp1, hp2, hp4⟩ := (u w (Outs.refl _ _)).form
  rw [hn] at evt
  clear hA hn hM hT u hc hg hH hp1 hp2 hp4
  have HE := hidq evt
  clear evt
  go_enter Try.func53, Try.ntmps53
  rw [HE.out] at q0
  go_wp2_with (first | (go_at_call 75; refine (near_any A HA.out n _ w (by rw [← HE.out]; exact U.out w (Outs.refl _ _)) HN.out).mono ?_; rintro rr w1 ⟨ga, rfl, hn1, hb1⟩; have N1 := hidq hn1; have B1 := hidq hb1; clear hn1 hb1))
  obtain ⟨T1, hT1⟩ : ∃ T1 : Nat → Prop, T1 = fun i => T i ∧ (i < w.heap.size ∨ w1.heap.size ≤ i) := ⟨_, rfl⟩
  have M1 : Hid (Mind w1 T1 s B vt n D0) := by rw [hT1]; exact HM.out.gap B1.out
  have HT1 : Hid (∀ i, w1.heap.size ≤ i → T1 i) := by rw [hT1]; exact fun i hi => ⟨HT.out i (by have := B1.out.size; omega), .inr hi⟩
  have HTT : Hid (∀ i, T1 i → T i) := by rw [hT1]; exact fun i h => h.1
  have HTN : Hid (∀ i, w.heap.size ≤ i → i < w1.heap.size → ¬ T1 i) := by rw [hT1]; exact fun i h1 h2 h => by have := h.2; omega
  have U1 : Hid (∀ X, Outs T1 w1 X → Ts X vt A) := fun X hX => U.out X ((Outs.of_below B1.out).trans (hX.mono HTT.out))
  clear hT1 HM
  go_loopw [3] (fun x wr => ∃ (q : Nat) (D : List Int), x = .int .i64 q ∧ Mind wr T1 s B vt n D ∧ M.LI A H n q D ∧ Outs T1 w1 wr) (fun x _ => n - (intOf x).toNat)
  case atStart => exact ⟨0, D0, rfl, M1.out, HL0.out, Outs.refl _ _⟩
  case round =>
    obtain ⟨q, D, rfl, hmd, hli, hou⟩ := hrel
    obtain ⟨g, vo, h1, h2, h3, tB, tg, tO⟩ := hmd
    have hgl := hli.2.1.len
    have hql := hli.2.2.2.2
    have q2 := h1.cell 2
    have q9 := h1.cell 0
    obtain ⟨ao, cap, rfl, hform⟩ := own_formq h3
    have HMD := hidq (show Mind wr T1 s B vt n D from ⟨g, _, h1, h2, h3, tB, tg, tO⟩)
    have HLI := hidq hli
    have HOU := hidq hou
    by_cases hq : q < D.length
    · obtain ⟨go_, rfl, _⟩ := hform (by omega)
      obtain ⟨x, hx⟩ : ∃ x, D[q]? = some x := ⟨_, List.getElem?_eq_getElem hq⟩
      have hxb := hli.2.1.2 x (List.mem_of_getElem? hx)
      obtain ⟨p, rfl⟩ : ∃ p : Nat, x = p := ⟨x.toNat, by omega⟩
      have hpn : p < n := by omega
      have hpi : (p : Int) < n := by omega
      have q3 := own_cellq h3 hq hx
      have HX := hidq hx
      obtain ⟨ar, cr, q4, or_⟩ := N1.out.row hpn
      have HNR := hidq (fun (X : World) (hX : Outs T1 w1 X) => Is.of_ownq (own_outs or_ hX fun k hk => by have := or_.lt k hk; exact HTN.out k this.1 this.2) hl (M.nrF_lt A n p))
      have q5 : wr.cell? ⟨ga, p, none⟩ = _ := (World.cell?_of_block (hou.block ga N1.out.block.2 (HTN.out ga N1.out.block.1 N1.out.block.2))).trans q4
      have hNL := M.nrF_len A n p
      obtain ⟨N, hN⟩ : ∃ N, M.nrF A n p = N := ⟨_, rfl⟩
      rw [hN] at HNR q5 hNL
      have HNE := hidq hN
      obtain ⟨_, _, efm, fm1, fm2, fm4⟩ := (HNR.out _ (Outs.refl _ _)).form
      simp only [Value.slice.injEq] at efm
      obtain ⟨rfl, _, rfl⟩ := efm
      have FM4 := hidq fm4
      clear hli hou h1 h2 h3 tB tg tO hx hxb hform or_ q4 hN fm4
      generalize hdl : D.length = dl at *
      have HDL := hidq hdl
      clear hdl
      generalize hnl : N.length = nl at *
      have HNL := hidq hnl
      clear hnl
      have hqi : (q : Int) < dl := by omega
      go_wp2
      obtain ⟨wo, rfl⟩ : ∃ wo : World, wo = wr := ⟨_, rfl⟩
      go_loopw [31] (fun x wr => ∃ (r : Nat) (D1 : List Int), x = .int .i64 r ∧ r ≤ nl ∧ Mind wr T1 s B vt n D1 ∧ M.LJ A H n q D N r D1 ∧ Outs T1 w1 wr) (fun x _ => nl - (intOf x).toNat)
      case atStart => exact ⟨0, D, rfl, by omega, HMD.out, M.LJ.start HLI.out, HOU.out⟩
      case round =>
        obtain ⟨r, D1, rfl, hr, hmr, hlj, hor⟩ := hrel
        have HMR := hidq hmr
        have HLJ := hidq hlj
        have HOR := hidq hor
        by_cases hlt : r < nl
        · obtain ⟨bn, on, rfl⟩ := FM4.out (by omega)
          obtain ⟨x, hx⟩ : ∃ x, N[r]? = some x := ⟨_, List.getElem?_eq_getElem (by rw [HNL.out]; exact hlt)⟩
          have c1 := Is.cellq (HNR.out _ hor) hx
          have hxb := M.nrF_lt A n p x (by rw [HNE.out]; exact List.mem_of_getElem? hx)
          obtain ⟨kk, rfl⟩ : ∃ kk : Nat, x = kk := ⟨x.toNat, by omega⟩
          have hkk : kk < n := by omega
          have HJN := hidq (HLJ.out.next HA.out HN.out hx hkk)
          clear hx hxb hmr hlj hor
          go_wp2_with (first | (go_at_call 76; refine (tells_any A HA.out T1 s B vt n D1 kk _ HMR.out (U1.out _ HOR.out) HN.out hkk).mono ?_; rintro rr w3 ⟨v3, rfl, ho3, hb3⟩; have O3 := hidq ho3; have B3 := hidq hb3; have M3 := hidq (HMR.out.gap hb3); clear ho3 hb3) | (go_at_call 74; refine (learn_any (fun i => T1 i ∧ (i < wr.heap.size ∨ w3.heap.size ≤ i)) s B vt n D1 (M.tell A D1 kk) _ _ M3.out (fun i hi => ⟨HT1.out i (by have := B3.out.size; have := HOR.out.size; omega), .inr hi⟩) (by have := B3.out.size; have := HOR.out.size; have := B1.out.size; omega) hl (HLJ.out.2.1) (fun x hx => by have := (M.tell_fol HA.out (by rw [HN.out]; exact hkk) hx).2; have e := HN.out; exact ⟨this.1, by omega⟩) (fun X hX => Is.of_ownq (own_outs O3.out hX fun k hk => by have := O3.out.lt k hk; omega) hl (fun x hx => by have := (M.tell_fol HA.out (by rw [HN.out]; exact hkk) hx).2; have e := HN.out; exact ⟨this.1, by omega⟩))).mono ?_; rintro rr w4 ⟨rfl, hm4, ho4⟩; have M4 := hidq (hm4.mono (T' := T1) fun _ h _ => h.1); have O4 := hidq (HOR.out.trans ((Outs.of_below B3.out).trans (ho4.mono fun _ h => h.1))); clear hm4 ho4))
          go_roundw
          case rel => exact ⟨r + 1, _, by go_num, by omega, M4.out, HJN.out, O4.out⟩
          case measure => simp [intOf]; omega
        · obtain rfl : r = nl := by omega
          clear hmr hlj hor
          go_wp2
          go_roundw
          case rel => exact ⟨q + 1, D1, by go_num, HMR.out, HLI.out.next HN.out HLJ.out HX.out HNL.out.symm HNE.out.symm, HOR.out⟩
          case measure => simp [intOf]; omega
    · have hqe : q = D.length := by omega
      have HK := hidq (HLI.out.done HN.out hqe)
      clear hli hou h1 h2 h3 tB tg tO hform
      subst hqe
      generalize D.length = dl at *
      go_wp2
      go_end0
      exact ⟨rfl, D, HMD.out.mono fun i h _ => HTT.out i h, HLI.out.1, HLI.out.2.1, HK.out, (Outs.of_below B1.out).trans (HOU.out.mono HTT.out)⟩
end Go.Proofs.Ytljaahheofikpaa
namespace Go.Proofs.Ytljaahheofikpaa
open Go.RowKit
theorem any_take_next {p : Int → Bool} {L : List Int} {k : Nat} {x : Int} (h : L[k]? = some x) (h0 : (L.take k).any p = false) (hx : p x = false) : (L.take (k + 1)).any p = false := by
  obtain ⟨hk, e⟩ := List.getElem?_eq_some_iff.1 h
  rw [List.take_succ_eq_append_getElem hk, List.any_append, h0, e]
  simp [hx]
set_option maxRecDepth 100000 in
set_option maxHeartbeats 4000000 in
theorem idx_chk (p : Int → Bool) (b0 : Nat) (L : List Int) (v : Value) (w : World) (u : Is w v L)
    (hc : ∀ X, Below w.heap.size w X → ∀ x ∈ L, Calls Try.prog 73 #[.int .i64 x, .pointer (some ⟨b0, 0, none⟩)] X fun e w' => e = .returned (.bool (p x)) ∧ Below X.heap.size X w') (r : Bool) (hr : L.any p = r) :
    Calls Try.prog 71 #[v, (.func (.func 73) #[] #[.pointer (some ⟨b0, 0, none⟩)])] w fun e w' => (∃ i : Int, e = .returned (.int .i64 i) ∧ (if r = true then 0 ≤ i else i = -1)) ∧ Below w.heap.size w w' := by
  obtain ⟨a1, c1, rfl, hp1, hp2, hp4⟩ := u.form
  have hm : L.length ≤ maxLen := by omega
  unfold maxLen at hm
  have U := hidq (fun X (hb : Below w.heap.size w X) => u.below hb)
  have HC := hidq hc
  have HP4 := hidq hp4
  have HR := hidq hr
  clear hp4 u hc hr
  generalize hn : L.length = n at *
  have HN := hidq hn
  clear hn
  go_enter Try.func71, Try.ntmps71
  go_wp2
  go_loopw [8] (fun x wr => ∃ k : Nat, k ≤ n ∧ x = .int .i64 k ∧ (L.take k).any p = false ∧ Below w.heap.size w wr) (fun x _ => n - (intOf x).toNat)
  case atStart => exact ⟨0, by omega, rfl, by simp, Below.refl _ _⟩
  case round =>
    obtain ⟨k, hk, rfl, hno, hb⟩ := hrel
    have HNO := hidq hno
    have HB := hidq hb
    by_cases hlt : k < n
    · obtain ⟨b1, o1, rfl⟩ := HP4.out (by omega)
      obtain ⟨x, hx⟩ : ∃ x, L[k]? = some x := ⟨_, List.getElem?_eq_getElem (by rw [HN.out]; exact hlt)⟩
      have c1 := Is.cellq (U.out _ hb) hx
      have HX := hidq hx
      have CX := hidq (HC.out wr hb x (List.mem_of_getElem? hx))
      clear hx hno hb
      cases hp : p x with
      | true =>
        obtain rfl : r = true := by rw [← HR.out, List.any_eq_true]; exact ⟨x, List.mem_of_getElem? HX.out, hp⟩
        rw [hp] at CX
        clear hp
        go_wp2_with (first | (go_at_call 73; refine CX.out.mono ?_; rintro rr w2 ⟨rfl, hb2⟩; have B2 := hidq (below_trans HB.out hb2); clear hb2))
        go_ret
        exact ⟨⟨_, rfl, by simp⟩, B2.out⟩
      | false =>
        have HN2 := hidq (any_take_next HX.out HNO.out hp)
        rw [hp] at CX
        clear hp
        go_wp2_with (first | (go_at_call 73; refine CX.out.mono ?_; rintro rr w2 ⟨rfl, hb2⟩; have B2 := hidq (below_trans HB.out hb2); clear hb2))
        go_roundw
        case rel => exact ⟨k + 1, by omega, by go_num, HN2.out, B2.out⟩
        case measure => simp [intOf]; omega
    · obtain rfl : r = false := by rw [← HR.out, ← HNO.out, List.take_of_length_le (by rw [HN.out]; omega)]
      clear hno hb
      go_wp2
      go_ret
      first | exact ⟨⟨_, rfl, by simp⟩, HB.out⟩ | exact ⟨rfl, HB.out⟩
set_option maxRecDepth 100000 in
theorem has_chk (p : Int → Bool) (b0 : Nat) (L : List Int) (v : Value) (w : World) (u : Is w v L)
    (hc : ∀ X, Below w.heap.size w X → ∀ x ∈ L, Calls Try.prog 73 #[.int .i64 x, .pointer (some ⟨b0, 0, none⟩)] X fun e w' => e = .returned (.bool (p x)) ∧ Below X.heap.size X w') (r : Bool) (hr : L.any p = r) :
    Calls Try.prog 47 #[v, (.func (.func 73) #[] #[.pointer (some ⟨b0, 0, none⟩)])] w fun e w' => e = .returned (.bool r) ∧ Below w.heap.size w w' := by
  have HI := hidq (idx_chk p b0 L v w u hc r hr)
  clear hc u hr
  go_enter Try.func47, Try.ntmps47
  cases r with
  | true =>
    go_wp2_with (first | (go_at_call 71; refine HI.out.mono ?_; rintro rr w2 ⟨⟨i, rfl, hi⟩, hb2⟩; rw [if_pos rfl] at hi))
    go_ret
    exact ⟨rfl, hb2⟩
  | false =>
    go_wp2_with (first | (go_at_call 71; refine HI.out.mono ?_; rintro rr w2 ⟨⟨i, rfl, hi⟩, hb2⟩; rw [if_neg (by decide)] at hi; subst hi))
    go_ret
    exact ⟨rfl, hb2⟩
set_option maxRecDepth 100000 in
theorem check1_any (b0 n c : Nat) (ao : Option Addr) (x : Int) (w : World) (h : w.cell? ⟨b0, 0, none⟩ = some (.slice ao n c)) :
    Calls Try.prog 73 #[.int .i64 x, .pointer (some ⟨b0, 0, none⟩)] w fun e w' => e = .returned (.bool (decide (x < 0 ∨ (n : Int) ≤ x))) ∧ Below w.heap.size w w' := by
  by_cases h0 : x < 0
  · obtain ⟨r, hr⟩ : ∃ r, decide (x < 0 ∨ (n : Int) ≤ x) = r := ⟨_, rfl⟩
    obtain rfl : r = true := by rw [← hr]; exact decide_eq_true (.inl h0)
    rw [hr]
    clear hr
    go_enter Try.func73, Try.ntmps73
    go_wp2
    go_ret
    exact ⟨rfl, Below.refl _ _⟩
  · by_cases h1 : (n : Int) ≤ x
    · obtain ⟨r, hr⟩ : ∃ r, decide (x < 0 ∨ (n : Int) ≤ x) = r := ⟨_, rfl⟩
      obtain rfl : r = true := by rw [← hr]; exact decide_eq_true (.inr h1)
      rw [hr]
      clear hr
      go_enter Try.func73, Try.ntmps73
      go_wp2
      go_ret
      exact ⟨rfl, Below.refl _ _⟩
    · obtain ⟨r, hr⟩ : ∃ r, decide (x < 0 ∨ (n : Int) ≤ x) = r := ⟨_, rfl⟩
      obtain rfl : r = false := by rw [← hr]; exact decide_eq_false (by omega)
      rw [hr]
      clear hr
      go_enter Try.func73, Try.ntmps73
      go_wp2
      go_ret
      exact ⟨rfl, Below.refl _ _⟩
/-- a list of places that there are -/
def M.okL (A : List M.Tm) (L : List Int) : Prop := L.length ≤ 65536 ∧ ∀ x ∈ L, M.Pl A x
theorem M.okL_any {A : List M.Tm} {L : List Int} (h : L.length ≤ 65536) : L.any (fun x => decide (x < 0 ∨ (A.length : Int) ≤ x)) = false ↔ M.okL A L := by
  rw [List.any_eq_false]
  constructor
  · intro h1
    refine ⟨h, fun x hx => ?_⟩
    have := h1 x hx
    simp only [decide_eq_true_eq] at this
    exact ⟨by omega, by omega⟩
  · intro h1 x hx
    have := h1.2 x hx
    simp only [decide_eq_true_eq]
    have h2 := this.1
    have h3 := this.2
    omega
/-- rows of rows of places -/
def Iss (W : World) (v : Value) (Ls : List (List Int)) : Prop := ∃ R : List SlT, Sl elSl W v R ∧ R.length = Ls.length ∧ ∀ (j : Nat) (x : SlT) (L : List Int), R[j]? = some x → Ls[j]? = some L → Is W (slV x) L
theorem Iss.below {W W' : World} {v : Value} {Ls : List (List Int)} (h : Iss W v Ls) (hb : Below W.heap.size W W') : Iss W' v Ls := by
  obtain ⟨R, h1, h2, h3⟩ := h
  exact ⟨R, h1.below hb, h2, fun j x L hx hL => (h3 j x L hx hL).below hb⟩
open Classical in
theorem kchk_ok {A : List M.Tm} {Ls : List (List Int)} {r : Int} (h : (if M.Ok A ∧ ∀ L ∈ Ls, M.okL A L then (0 : Int) else 1) = r) : (r = 0 ↔ M.Ok A ∧ ∀ L ∈ Ls, M.okL A L) ∧ (r = 0 ∨ r = 1) := by
  subst h
  split
  · exact ⟨⟨fun _ => by assumption, fun _ => rfl⟩, .inl rfl⟩
  · exact ⟨⟨fun h => by omega, fun h => by contradiction⟩, .inr rfl⟩
set_option maxRecDepth 100000 in
set_option maxHeartbeats 4000000 in
theorem kcheck_any (A : List M.Tm) (Ls : List (List Int)) (r : Int) (v1 v2 : Value) (w : World) (u1 : Ts w v1 A) (u2 : Iss w v2 Ls) (hr : (r = 0 ↔ M.Ok A ∧ ∀ L ∈ Ls, M.okL A L) ∧ (r = 0 ∨ r = 1)) :
    Calls Try.prog 51 #[v1, v2] w fun e w' => e = .returned (.int .i64 r) ∧ Below w.heap.size w w' := by
  obtain ⟨a1, c1, rfl, hp1, hp2, hp4⟩ := u1.form
  obtain ⟨R, uR, hRl, uI⟩ := u2
  obtain ⟨a2, c2, rfl, hq1, hq2, hq4⟩ := uR.form
  have hm1 : A.length ≤ maxLen := by omega
  have hm2 : R.length ≤ maxLen := by omega
  unfold maxLen at hm1 hm2
  have U1 := hidq u1
  have UR := hidq (fun X (hb : Below w.heap.size w X) => uR.below hb)
  have UI := hidq (fun (X : World) (hb : Below w.heap.size w X) (j : Nat) (x : SlT) (L : List Int) (hx : R[j]? = some x) (hL : Ls[j]? = some L) => (uI j x L hx hL).below hb)
  have HQ4 := hidq hq4
  have HR := hidq hr
  clear hp4 hq4 u1 uR uI hr
  have HB0 := hidq (below_one (o := .cells #[.slice a1 A.length c1] 22) (Below.refl w.heap.size w))
  have X0 := hidq (Bxs.new w #[.slice a1 A.length c1] 22)
  by_cases hA : M.Ok A
  · have HC : Hid (M.chkE A = 0) := if_pos hA
    have HA := hidq hA
    clear hA
    generalize hn : A.length = n at *
    have HN := hidq hn
    generalize hm : R.length = m at *
    have HM := hidq hm
    have HML := hidq hRl
    clear hn hm hRl
    go_enter Try.func51, Try.ntmps51
    go_wp2_with (first | (go_at_call 38; refine (check_eq HC.out _ (U1.out.alloc _)).mono ?_; rintro rr w1 ⟨rfl, hb1⟩; have B1 := hidq hb1; clear hb1))
    have X1 := hidq (X0.out.below B1.out)
    have B2 := hidq (below_trans HB0.out B1.out)
    clear B1 HB0 X0
    go_loopw [17] (fun x wr => ∃ k : Nat, k ≤ m ∧ x = .int .i64 k ∧ (∀ L ∈ Ls.take k, M.okL A L) ∧ Below w1.heap.size w1 wr) (fun x _ => m - (intOf x).toNat)
    case atStart => exact ⟨0, by omega, rfl, by simp, Below.refl _ _⟩
    case round =>
      obtain ⟨k, hk, rfl, hall, hb⟩ := hrel
      have HAL := hidq hall
      have HB := hidq hb
      by_cases hlt : k < m
      · obtain ⟨b1, o1, rfl⟩ := HQ4.out (by omega)
        have hkR : k < R.length := by rw [HM.out]; exact hlt
        have hkL : k < Ls.length := by rw [← HML.out]; exact hlt
        obtain ⟨x, hx⟩ : ∃ x, R[k]? = some x := ⟨_, List.getElem?_eq_getElem hkR⟩
        obtain ⟨L, hL⟩ : ∃ L, Ls[k]? = some L := ⟨_, List.getElem?_eq_getElem hkL⟩
        have B3 := hidq (below_trans B2.out hb)
        have c1 := Sl.at (UR.out _ B3.out) hx (i := 0) (by decide)
        have hI := UI.out _ B3.out k x L hx hL
        have HI := hidq hI
        obtain ⟨ax, cx, ex, ex1, ex2, _⟩ := hI.form
        have e1 : (elSl.enc x)[0]? = some (.slice ax L.length cx) := by rw [← ex]; rfl
        rw [e1] at c1
        replace c1 : wr.cell? ⟨b1, o1 + k, none⟩ = some (.slice ax L.length cx) := by simpa [elSl] using c1
        rw [ex] at HI
        have hLm : L.length ≤ maxLen := by omega
        unfold maxLen at hLm
        have HMM := hidq (List.mem_of_getElem? hL)
        have HT := hidq (show Ls.take (k + 1) = Ls.take k ++ [L] by
          rw [List.take_succ_eq_append_getElem hkL]
          rw [List.getElem?_eq_getElem hkL] at hL
          rw [Option.some.inj hL])
        clear hx hL hkR hkL hI ex e1 hall hb
        by_cases h16 : L.length ≤ 65536
        · have h16i : ¬ (65536 : Int) < L.length := by omega
          obtain ⟨f, hf⟩ : ∃ f, L.any (fun x => decide (x < 0 ∨ (A.length : Int) ≤ x)) = f := ⟨_, rfl⟩
          have HOK := hidq (M.okL_any (A := A) h16)
          rw [hf] at HOK
          rw [HN.out] at hf
          have HF := hidq hf
          have X3 := hidq (fun X (hb : Below wr.heap.size wr X) => (X1.out.below (below_trans HB.out hb)).cell 0)
          have CF := hidq (has_chk (fun x => decide (x < 0 ∨ (n : Int) ≤ x)) w.heap.size L _ wr HI.out (fun X hb x _ => check1_any w.heap.size n _ _ x X (X3.out X hb)) f hf)
          clear hf h16
          generalize L.length = ll at *
          cases f with
          | true =>
            obtain rfl : r = 1 := by
              rcases HR.out.2 with h | h
              · have := HOK.out.2 ((HR.out.1.1 h).2 L HMM.out)
                cases this
              · exact h
            go_wp2_with (first | (go_at_call 47; refine CF.out.mono ?_; rintro rr w4 ⟨rfl, hb4⟩; have B4 := hidq (below_trans HB.out hb4); clear hb4))
            go_ret
            exact ⟨rfl, below_trans B2.out B4.out⟩
          | false =>
            have HK := hidq (HOK.out.1 rfl)
            go_wp2_with (first | (go_at_call 47; refine CF.out.mono ?_; rintro rr w4 ⟨rfl, hb4⟩; have B4 := hidq (below_trans HB.out hb4); clear hb4))
            go_roundw
            case rel => exact ⟨k + 1, by omega, by go_num, fun L' hL' => by
              rw [HT.out, List.mem_append, List.mem_singleton] at hL'
              rcases hL' with h | rfl
              · exact HAL.out L' h
              · exact HK.out, B4.out⟩
            case measure => simp [intOf]; omega
        · have h16i : (65536 : Int) < L.length := by omega
          obtain rfl : r = 1 := by
            rcases HR.out.2 with h | h
            · exact absurd ((HR.out.1.1 h).2 L HMM.out).1 h16
            · exact h
          clear h16
          generalize L.length = ll at *
          go_wp2
          go_ret
          exact ⟨rfl, B3.out⟩
      · obtain rfl : r = 0 := HR.out.1.2 ⟨HA.out, fun L hL => HAL.out L (by rw [List.take_of_length_le (by rw [← HML.out]; omega)]; exact hL)⟩
        clear hall hb
        go_wp2
        go_ret
        exact ⟨rfl, below_trans B2.out HB.out⟩
  · have HC : Hid (M.chkE A = 1) := if_neg hA
    obtain rfl : r = 1 := by
      rcases hr0 : HR.out.2 with h | h
      · exact absurd (HR.out.1.1 h).1 hA
      · exact h
    clear hA
    generalize A.length = n at *
    go_enter Try.func51, Try.ntmps51
    go_wp2_with (first | (go_at_call 38; refine (check_eq HC.out _ (U1.out.alloc _)).mono ?_; rintro rr w1 ⟨rfl, hb1⟩; have B1 := hidq hb1; clear hb1))
    go_ret
    exact ⟨rfl, below_trans HB0.out B1.out⟩
end Go.Proofs.Ytljaahheofikpaa
namespace Go.Proofs.Ytljaahheofikpaa
open Go.RowKit
theorem Is.celld {W : World} {b off n cap : Nat} {L : List Int} (h : Is W (.slice (some ⟨b, off, none⟩) n cap) L) : ∀ j, j < L.length → W.cell? ⟨b, off + j, none⟩ = some (.int .i64 (L.getD j 0)) := fun j hj => by
  rw [Is.cellq h (List.getElem?_eq_getElem hj), List.getD_eq_getElem?_getD, List.getElem?_eq_getElem hj]
  rfl
/-- one list of places, and two, as they are handed over -/
theorem iss_one (W : World) (g : Nat) (hg : g = W.heap.size) (ao : Option Addr) (n c : Nat) (L : List Int) (u : Is W (.slice ao n c) L) : Iss (W.alloc (.cells #[.slice ao n c] 48)) (.slice (some ⟨g, 0, none⟩) 1 1) [L] := by
  subst hg
  refine ⟨[(ao, n, c)], ⟨_, 1, rfl, by simp, by simp [maxLen], by simp [elSl], fun _ => ⟨W.heap.size, 0, rfl, by simp, fun j hj => ?_⟩⟩, rfl, fun j x L' hx hL => ?_⟩
  · have : j = 0 := by simp [elSl] at hj; exact hj
    subst this
    rw [(Bxs.new W #[.slice ao n c] 48).cell]; rfl
  · match j, hx, hL with
    | 0, hx, hL => cases hx; cases hL; exact u.alloc _
theorem iss_two (W : World) (g : Nat) (hg : g = W.heap.size) (ao : Option Addr) (n c : Nat) (L : List Int) (u : Is W (.slice ao n c) L) (ao' : Option Addr) (n' c' : Nat) (L' : List Int) (u' : Is W (.slice ao' n' c') L') : Iss (W.alloc (.cells #[.slice ao n c, .slice ao' n' c'] 48)) (.slice (some ⟨g, 0, none⟩) 2 2) [L, L'] := by
  subst hg
  refine ⟨[(ao, n, c), (ao', n', c')], ⟨_, 2, rfl, by simp, by simp [maxLen], by simp [elSl], fun _ => ⟨W.heap.size, 0, rfl, by simp, fun j hj => ?_⟩⟩, rfl, fun j x L1 hx hL => ?_⟩
  · have hj2 : j < 2 := by simpa [elSl] using hj
    rw [Nat.zero_add, (Bxs.new W #[.slice ao n c, .slice ao' n' c'] 48).cell]
    match j, hj2 with
    | 0, _ => rfl
    | 1, _ => rfl
  · match j, hx, hL with
    | 0, hx, hL => cases hx; cases hL; exact u.alloc _
    | 1, hx, hL => cases hx; cases hL; exact u'.alloc _
theorem hr_yes {A : List M.Tm} {Ls : List (List Int)} (h : M.Ok A ∧ ∀ L ∈ Ls, M.okL A L) : ((0 : Int) = 0 ↔ M.Ok A ∧ ∀ L ∈ Ls, M.okL A L) ∧ ((0 : Int) = 0 ∨ (0 : Int) = 1) := ⟨⟨fun _ => h, fun _ => rfl⟩, .inl rfl⟩
theorem hr_no {A : List M.Tm} {Ls : List (List Int)} (h : ¬ (M.Ok A ∧ ∀ L ∈ Ls, M.okL A L)) : ((1 : Int) = 0 ↔ M.Ok A ∧ ∀ L ∈ Ls, M.okL A L) ∧ ((1 : Int) = 0 ∨ (1 : Int) = 1) := ⟨⟨fun h => by omega, fun h' => absurd h' h⟩, .inr rfl⟩
theorem M.okL.lt {A : List M.Tm} {L : List Int} {n : Nat} (h : M.okL A L) (hn : A.length = n) : ∀ x ∈ L, 0 ≤ x ∧ x < (n : Int) := fun x hx => by have := h.2 x hx; exact ⟨this.1, by have := this.2; omega⟩
end Go.Proofs.Ytljaahheofikpaa
namespace Go.Proofs.Ytljaahheofikpaa
open Go.RowKit
theorem M.okL_one {A : List M.Tm} {i : Int} : M.okL A [i] ↔ M.Pl A i := ⟨fun h => h.2 i (by simp), fun h => ⟨by simp, fun x hx => by rw [List.mem_singleton] at hx; subst hx; exact h⟩⟩
theorem M.two_ok {A : List M.Tm} {H : List Int} {i : Int} : (M.Ok A ∧ ∀ L ∈ [H, [i]], M.okL A L) ↔ M.Ok A ∧ M.okL A H ∧ M.Pl A i := by simp [M.okL_one]
set_option maxRecDepth 100000 in
set_option maxHeartbeats 4000000 in
theorem knows_ok {A : List M.Tm} {H : List Int} {i : Int} (hA : M.Ok A) (hH : M.okL A H) (hi : M.Pl A i) {r : Bool} (hr : r = true ↔ M.Kn A H i) {v1 v2 : Value} (w : World) (u1 : Ts w v1 A) (u2 : Is w v2 H) :
    Calls Try.prog 23 #[v1, v2, .int .i64 i] w fun e w' => e = .returned (.tuple #[.bool r, .int .i64 0]) ∧ Below w.heap.size w w' := by
  obtain ⟨n, hn⟩ : ∃ n, A.length = n := ⟨_, rfl⟩
  have hl := hA.1
  rw [hn] at hl
  obtain ⟨a2, c2, rfl, _, _, _⟩ := u2.form
  have hi1 := hi.1
  have hi2 := hi.2
  rw [hn] at hi2
  have HFI := hidq (show M.fitI i from ⟨by omega, by omega⟩)
  have U1 := hidq u1
  have U2 := hidq u2
  have HA := hidq hA
  have HH := hidq hH
  have HN := hidq hn
  have HR := hidq (hr_yes (M.two_ok.2 ⟨hA, hH, hi⟩))
  have HK := hidq hr
  clear u1 u2 hA hH hn hi hr
  go_enter Try.func23, Try.ntmps23
  go_upto_region 6 with (first | (go_at_call 51; refine (kcheck_any A [H, [i]] _ _ _ _ ((U1.out.alloc _).alloc _) (iss_two (w.alloc (.cells #[.int .i64 i] 3)) _ (by simp) _ _ _ H (U2.out.alloc _) _ _ _ [i] (is_oneq w _ rfl i HFI.out)) HR.out).mono ?_; rintro rr w1 ⟨rfl, hb1⟩; have B1 := hidq (below_trans (below_one (below_one (Below.refl _ _))) hb1); clear hb1) | (go_at_call 52; refine (mindOf_any n A H _ _ _ (U1.out.below B1.out) (U2.out.below B1.out) HN.out hl (M.okL.lt HH.out HN.out)).mono ?_; rintro rr w2 ⟨B, rfl, hm2, hb2⟩; have M2 := hidq hm2; have B2 := hidq hb2; clear hm2 hb2) | (go_at_call 53; refine (learnAll_any A HA.out H (fun i => w1.heap.size ≤ i) w1.heap.size B _ n _ _ HN.out M2.out (fun i hi => by have := B2.out.size; omega) B2.out.size (fun X hX => U1.out.below (below_trans B1.out (B2.out.trans (hX.below (fun _ h => h) B2.out.size)))) ((M.Chn.nil A H).lrn fun x hx => .inl hx) ((M.Gd.nil n).lrn (M.okL.lt HH.out HN.out)) (fun h hh => M.lrn_mem.2 (.inr hh))).mono ?_; rintro rr w3 ⟨rfl, D, hm3, hc3, hg3, hk3, ho3⟩; have M3 := hidq hm3; have C3 := hidq hc3; have G3 := hidq hg3; have K3 := hidq hk3; have B3 := hidq (below_trans B1.out (B2.out.trans (ho3.below (fun _ h => h) B2.out.size))); have S3 := hidq (show w1.heap.size ≤ w3.heap.size from Nat.le_trans B2.out.size ho3.size); clear hm3 hc3 hg3 hk3 ho3))
  (obtain ⟨g, vo, h1, h2, h3, _, _, _⟩ := M3.out; have q1 := h1.cell 1; have q2 := h1.cell 2; have hdl := G3.out.len)
  obtain ⟨p, rfl⟩ : ∃ p : Nat, i = p := ⟨i.toNat, by omega⟩
  have hpn : p < n := by omega
  have q3 := ownB_cell h2 hpn
  have e : decide ((p : Int) ∈ D) = r := by
    rw [Bool.eq_iff_iff, decide_eq_true_eq, HK.out]
    exact K3.out p
  rw [e] at q3
  clear h1 h2 h3 q2 e
  go_wp2
  go_ret2
  exact ⟨rfl, B3.out⟩
set_option maxRecDepth 100000 in
theorem knows_no {A : List M.Tm} {H : List Int} {i : Int} (hf : M.fitI i) (h : ¬ (M.Ok A ∧ M.okL A H ∧ M.Pl A i)) {v1 v2 : Value} (w : World) (u1 : Ts w v1 A) (u2 : Is w v2 H) :
    Calls Try.prog 23 #[v1, v2, .int .i64 i] w fun e w' => e = .returned (.tuple #[.bool false, .int .i64 1]) ∧ Below w.heap.size w w' := by
  obtain ⟨a2, c2, rfl, _, _, _⟩ := u2.form
  have U1 := hidq u1
  have U2 := hidq u2
  have HFI := hidq hf
  have HR := hidq (hr_no (fun h' => h (M.two_ok.1 h')))
  clear u1 u2 h hf
  go_enter Try.func23, Try.ntmps23
  go_wp2_with (first | (go_at_call 51; refine (kcheck_any A [H, [i]] _ _ _ _ ((U1.out.alloc _).alloc _) (iss_two (w.alloc (.cells #[.int .i64 i] 3)) _ (by simp) _ _ _ H (U2.out.alloc _) _ _ _ [i] (is_oneq w _ rfl i HFI.out)) HR.out).mono ?_; rintro rr w1 ⟨rfl, hb1⟩; have B1 := hidq (below_trans (below_one (below_one (Below.refl _ _))) hb1); clear hb1))
  go_ret2
  exact ⟨rfl, B1.out⟩
end Go.Proofs.Ytljaahheofikpaa
namespace Go.Proofs.Ytljaahheofikpaa
namespace M
theorem kind_lt {A : List Tm} {j : Nat} (h : (at_ A j).1 = 5) : j < A.length := by
  rcases Nat.lt_or_ge j A.length with h1 | h1
  · exact h1
  · unfold at_ at h
    rw [List.getElem?_eq_none h1] at h
    cases h
theorem Kn.ext {A L : List Tm} (hx : Ext A L) {H : List Int} {i : Int} (h : Kn A H i) : Kn L H i := by
  refine h.least (fun x hx => Kn.base hx) fun j hp hf => ?_
  have hpl : Pl L j := ⟨hp.1, by have := hp.2; have := hx.1; omega⟩
  have ej : tm L j = tm A j := hx.at (by have := hp.1; have := hp.2; omega)
  refine Kn.shut hpl ?_
  rcases hf with ⟨a, b⟩ | ⟨a, b, c⟩ | ⟨k, a, b, c, d⟩
  · exact .inl ⟨by rw [ej]; exact a, by rw [ej]; exact b⟩
  · exact .inr (.inl ⟨by rw [ej]; exact a, by rw [ej]; exact b, by rw [ej]; exact c⟩)
  · have ek : tm L k = tm A k := hx.at (kind_lt b)
    exact .inr (.inr ⟨k, a, by rw [ek]; exact b, by rw [ek]; exact c, by rw [ek]; exact d⟩)
theorem okL.ext {A L : List Tm} (hx : Ext A L) {H : List Int} (h : okL A H) : okL L H := ⟨h.1, fun x hm => ⟨(h.2 x hm).1, by have := (h.2 x hm).2; have := hx.1; omega⟩⟩
theorem mkT_there {A : List Tm} {t : Tm} {x : Val} {L : List Tm} (h : mkT A t = (x, L, 0)) : Ok L ∧ Ext A L ∧ ∃ i : Nat, x = ofT i ∧ i < L.length ∧ at_ L i = t := by
  have he : makeE A t = 0 := by rw [← mkT_err, h]
  unfold mkT at h
  rw [if_pos he] at h
  simp only [Prod.mk.injEq] at h
  obtain ⟨rfl, rfl, _⟩ := h
  obtain ⟨i, e1, e2, e3, _⟩ := make_there he
  exact ⟨make_ok he, Ext.make he, i, by rw [e1], e2, e3⟩
theorem ofT_T (i : Int) : (ofT i).2.2.2.2 = i := rfl
theorem part_known {A : List Tm} {k : Val} {i : Int} {H : List Int} (hs : k.1 = true) (hH : okL A H) {x : Val} {L : List Tm} (h : partA A k i = (x, L, 0)) (hk : Kn A H k.2.2.2.2) :
    Ok L ∧ okL L H ∧ Pl L x.2.2.2.2 ∧ Kn L H x.2.2.2.2 := by
  have hp := (part_err0 (A := A) (v := k) (i := i) (by rw [h])).2
  unfold partA at h
  rw [if_pos hp, if_pos hs] at h
  obtain ⟨h1, h2, j, rfl, h4, h5⟩ := mkT_there h
  have hpl : Pl L (j : Int) := ⟨by omega, by omega⟩
  have hj : tm L (j : Int) = (2 + i, k.2.2.2.2, 0) := by show at_ L (j : Int).toNat = _; rw [Int.toNat_natCast]; exact h5
  refine ⟨h1, hH.ext h2, hpl, Kn.shut hpl (.inl ⟨?_, ?_⟩)⟩
  · rw [ofT_T, hj]; have := hp.2.2; show 2 + i = 2 ∨ 2 + i = 3 ∨ 2 + i = 4; omega
  · rw [ofT_T, hj]; exact hk.ext h2
theorem wrap_known {A : List Tm} {k v : Val} {H : List Int} (hs : k.1 = true) (hH : okL A H) {x : Val} {L : List Tm} (h : wrapA A k v = (x, L, 0)) (hk : Kn A H k.2.2.2.2) (hv : Kn A H v.2.2.2.2) :
    Ok L ∧ okL L H ∧ Pl L x.2.2.2.2 ∧ Kn L H x.2.2.2.2 := by
  have hp := (wrap_err0 (A := A) (k := k) (v := v) (by rw [h])).2
  unfold wrapA at h
  rw [if_pos hp, if_pos hs] at h
  obtain ⟨h1, h2, j, rfl, h4, h5⟩ := mkT_there h
  have hpl : Pl L (j : Int) := ⟨by omega, by omega⟩
  have hj : tm L (j : Int) = (5, k.2.2.2.2, v.2.2.2.2) := by show at_ L (j : Int).toNat = _; rw [Int.toNat_natCast]; exact h5
  refine ⟨h1, hH.ext h2, hpl, Kn.shut hpl (.inr (.inl ⟨?_, ?_, ?_⟩))⟩
  · rw [ofT_T, hj]
  · rw [ofT_T, hj]; exact hk.ext h2
  · rw [ofT_T, hj]; exact hv.ext h2
theorem un_known {A : List Tm} {k v : Val} {H : List Int} (hs : k.1 = true) {x : Val} (h : unA A k v = (x, 0)) (hk : Kn A H k.2.2.2.2) (hv : Kn A H v.2.2.2.2) :
    Ok A ∧ Pl A x.2.2.2.2 ∧ Kn A H x.2.2.2.2 := by
  have hq := un_out (A := A) (k := k) (v := v) (.inl (by rw [h]))
  unfold unA at h
  rw [if_pos hq, if_pos hs] at h
  obtain ⟨hA, ⟨hmk, hmv, he⟩, sk, sv⟩ := hq
  by_cases ha : (at_ A v.2.2.2.2.toNat).2.1 = k.2.2.2.2
  · rw [if_pos ha] at h
    simp only [Prod.mk.injEq] at h
    obtain ⟨rfl, _⟩ := h
    obtain ⟨r0, r1⟩ := (mb_iff.1 hmv).2 (he ▸ hs)
    have h5 : (at_ A v.2.2.2.2.toNat).1 = 5 := by
      rw [mb_sym hmv (he ▸ hs)] at sv
      have e : v.2.2.2.2 = (v.2.2.2.2.toNat : Int) := by omega
      rw [e, sld_ofT] at sv
      exact of_decide_eq_true sv
    have hpa := parts_ahead (hA.2 v.2.2.2.2.toNat (by omega)).1 (at_ A v.2.2.2.2.toNat).2.2 (by unfold parts; rw [if_neg (by omega), if_pos h5]; simp)
    have hpl : Pl A (at_ A v.2.2.2.2.toNat).2.2 := ⟨hpa.1, by omega⟩
    refine ⟨hA, hpl, Kn.shut hpl (.inr (.inr ⟨v.2.2.2.2, hv, h5, rfl, ?_⟩))⟩
    show Kn A H (at_ A v.2.2.2.2.toNat).2.1
    rw [ha]; exact hk
  · rw [if_neg ha] at h
    simp only [Prod.mk.injEq] at h
    exact absurd h.2 (by decide)
end M
open Go.RowKit
/-- what Knows answers, at whatever input -/
theorem knows_one (A : List M.Tm) (H : List Int) (i : Int) (hf : M.fitI i) : ∃ (r : Bool) (e : Int), Hid (∀ (W : World) (v1 v2 : Value), Ts W v1 A → Is W v2 H →
    Calls Try.prog 23 #[v1, v2, .int .i64 i] W fun x w' => x = .returned (.tuple #[.bool r, .int .i64 e]) ∧ Below W.heap.size W w') ∧ (e = 0 ∧ M.okL A H ∧ (r = true ↔ M.Kn A H i) ∨ e = 1) := by
  by_cases h : M.Ok A ∧ M.okL A H ∧ M.Pl A i
  · have hd : ∃ r : Bool, r = true ↔ M.Kn A H i := by
      rcases Classical.em (M.Kn A H i) with hk | hk
      · exact ⟨true, by simp [hk]⟩
      · exact ⟨false, by simp [hk]⟩
    obtain ⟨r, hr⟩ := hd
    exact ⟨r, 0, fun W v1 v2 u1 u2 => knows_ok h.1 h.2.1 h.2.2 hr W u1 u2, .inl ⟨rfl, h.2.1, hr⟩⟩
  · exact ⟨false, 1, fun W v1 v2 u1 u2 => knows_no hf h W u1 u2, .inr rfl⟩
theorem knows_yes {A : List M.Tm} {H : List Int} {i : Int} (hA : M.Ok A) (hH : M.okL A H) (hi : M.Pl A i) (hk : M.Kn A H i) : Hid (∀ (W : World) (v1 v2 : Value), Ts W v1 A → Is W v2 H →
    Calls Try.prog 23 #[v1, v2, .int .i64 i] W fun x w' => x = .returned (.tuple #[.bool true, .int .i64 0]) ∧ Below W.heap.size W w') :=
  fun W _ _ u1 u2 => knows_ok hA hH hi (r := true) (by simp [hk]) W u1 u2
end Go.Proofs.Ytljaahheofikpaa
