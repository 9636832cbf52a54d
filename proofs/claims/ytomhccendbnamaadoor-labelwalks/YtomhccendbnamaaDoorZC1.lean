/-
  What is wrapped, in memory; '==' of it. Conditions: each theorem's own premises.
-/
import Derived.Test.YtomhccendbnamaaDoorZB15
import Derived.Test.YtomhccendbnamaaDoorZB6
import Derived.Laws.StructEq
namespace Go.Proofs.YtomhccendbnamaaDoor
open Go.RowKit
/-- what is wrapped, as the program holds it -/
def seaV (s : M.Sea) : Value := .agg #[.int .u64 (M.nu s.1.1), .int .u64 (M.nu s.1.2), .int .u64 (M.nu s.2.1), .int .u64 (M.nu s.2.2)]
/-- a block of four cells -/
def Bx4 (W : World) (B : Nat) (s : M.Sea) : Prop := W.heap[B]? = some (.cells #[.int .u64 (M.nu s.1.1), .int .u64 (M.nu s.1.2), .int .u64 (M.nu s.2.1), .int .u64 (M.nu s.2.2)] 27 (0, 0))
theorem Bx4.lt {W : World} {B : Nat} {s : M.Sea} (h : Bx4 W B s) : B < W.heap.size := (Array.getElem?_eq_some_iff.1 h).1
theorem Bx4.cells {W : World} {B : Nat} {s : M.Sea} (h : Bx4 W B s) : W.cell? ⟨B, 0, none⟩ = some (.int .u64 (M.nu s.1.1)) ∧ W.cell? ⟨B, 1, none⟩ = some (.int .u64 (M.nu s.1.2)) ∧ W.cell? ⟨B, 2, none⟩ = some (.int .u64 (M.nu s.2.1)) ∧ W.cell? ⟨B, 3, none⟩ = some (.int .u64 (M.nu s.2.2)) := by
  have h' : W.heap[B]? = _ := h
  refine ⟨?_, ?_, ?_, ?_⟩ <;> simp [World.cell?, h']
theorem Bx4.frozen {W : World} {B : Nat} {s : M.Sea} (h : Bx4 W B s) : W.frozen? ⟨B, 0, none⟩ = false ∧ W.frozen? ⟨B, 1, none⟩ = false ∧ W.frozen? ⟨B, 2, none⟩ = false ∧ W.frozen? ⟨B, 3, none⟩ = false := by
  have h' : W.heap[B]? = _ := h
  refine ⟨?_, ?_, ?_, ?_⟩ <;> simp [World.frozen?, h']
set_option maxRecDepth 100000 in
theorem Bx4.new (W : World) (s : M.Sea) : Bx4 (W.alloc (.cells #[.int .u64 (M.nu s.1.1), .int .u64 (M.nu s.1.2), .int .u64 (M.nu s.2.1), .int .u64 (M.nu s.2.2)] 27)) W.heap.size s := by
  show (W.heap.push _)[W.heap.size]? = _
  simp
theorem Bx4.alloc {W : World} {B : Nat} {s : M.Sea} (h : Bx4 W B s) (o : Obj) : Bx4 (W.alloc o) B s := (Below.heap_alloc _ _ _ h.lt).trans h
theorem Bx4.below {W W' : World} {B : Nat} {s : M.Sea} (h : Bx4 W B s) (hb : Below W.heap.size W W') : Bx4 W' B s := (hb.block B h.lt).trans h
theorem Bx4.other {W : World} {B : Nat} {s : M.Sea} (h : Bx4 W B s) {p : Addr} (hp : B ≠ p.block) (v : Value) : Bx4 (W.setCell p v) B s := (Below.heap_setCell _ _ _ _ hp).trans h
set_option maxRecDepth 100000 in
theorem eqBd (d : Nat) (x y p q : Int) (w : World) : (Op.equalIn (d + 2) 25 (.agg #[.int .u64 x, .int .u64 y]) (.agg #[.int .u64 p, .int .u64 q])).run Tryd.prog w = .ok (x == p && y == q) w := by
  obtain ⟨i0, hi, hz0, hz1, hz2⟩ := info_parts Tryd.infoU64b
  rw [run_equalIn_array w (d + 1) (n := 2) (e := 23) _ _ Tryd.underlying25 hi, Tryd.cellsU64b]
  simp [List.range, List.range.loop, Op.eqItems, part, go_sem]
  by_cases h1 : x = p <;> by_cases h2 : y = q <;> simp [h1, h2]
set_option maxRecDepth 100000 in
theorem Tryd.fieldsS : (Tryd.prog.fieldsOf 27) = #[⟨"C", 25, 0, false, "", "", 0⟩, ⟨"T", 25, 2, false, "", "", 16⟩] := by kernel_rfl
set_option maxRecDepth 100000 in
theorem Tryd.heldS : Tryd.prog.stoodInHeld 27 = false := by kernel_rfl
set_option maxRecDepth 100000 in
theorem Tryd.structS : Tryd.prog.underlying 27 = some (.struct (Tryd.prog.fieldsOf 27)) := by kernel_rfl
set_option maxRecDepth 100000 in
/-- '==' of two sealed -/
theorem eqS (a b c d x y z u : Int) (w : World) : (Op.equalIn 10000 27 (.agg #[.int .u64 a, .int .u64 b, .int .u64 c, .int .u64 d]) (.agg #[.int .u64 x, .int .u64 y, .int .u64 z, .int .u64 u])).run Tryd.prog w = .ok ((a == x && b == y) && (c == z && d == u)) w := by
  rw [run_equalIn_struct w 9999 _ _ _ Tryd.structS Tryd.heldS, Tryd.fieldsS]
  simp [Op.eqFields, part, go_sem, eqBd 9997]
  by_cases h1 : a = x <;> by_cases h2 : b = y <;> by_cases h3 : c = z <;> by_cases h4 : d = u <;> simp [h1, h2, h3, h4]
theorem sea_beq (a b : M.Sea) : ((M.nu a.1.1 == M.nu b.1.1 && M.nu a.1.2 == M.nu b.1.2) && (M.nu a.2.1 == M.nu b.2.1 && M.nu a.2.2 == M.nu b.2.2)) = decide (a = b) := by
  rw [blk_beq, blk_beq]
  obtain ⟨p, q⟩ := a
  obtain ⟨r, t⟩ := b
  rw [Bool.eq_iff_iff]
  simp
end Go.Proofs.YtomhccendbnamaaDoor
namespace Go.Proofs.YtomhccendbnamaaDoor
open Go.RowKit
theorem Bx4.set {W : World} {B : Nat} {s : M.Sea} (h : Bx4 W B s) (c : M.Sea) : Bx4 ((((W.setCell ⟨B, 0, none⟩ (.int .u64 (M.nu c.1.1))).setCell ⟨B, 1, none⟩ (.int .u64 (M.nu c.1.2))).setCell ⟨B, 2, none⟩ (.int .u64 (M.nu c.2.1))).setCell ⟨B, 3, none⟩ (.int .u64 (M.nu c.2.2))) B c := by
  have h' : W.heap[B]? = _ := h
  unfold Bx4
  simp only [World.setCell, Array.getElem?_modify, if_true, h', Option.map_some]
  rfl
theorem below_set4 {w W : World} {B : Nat} (h : Below w.heap.size w W) (hB : w.heap.size ≤ B) (u v x y : Value) : Below w.heap.size w ((((W.setCell ⟨B, 0, none⟩ u).setCell ⟨B, 1, none⟩ v).setCell ⟨B, 2, none⟩ x).setCell ⟨B, 3, none⟩ y) := (((h.setCell hB _).setCell hB _).setCell hB _).setCell hB _
theorem goods4 (w W : World) (bs : List (Nat × M.Blk)) (ss : List (Nat × M.Sea)) (h : ∀ p ∈ bs, Bx2 W p.1 p.2) (h4 : ∀ p ∈ ss, Bx4 W p.1 p.2) (hB : Below w.heap.size w W) : ∃ G : World → Prop, Hid (∀ X X', G X → Below X.heap.size X X' → G X') ∧ Hid (∀ X, G X → ∀ p ∈ bs, Bx2 X p.1 p.2) ∧ Hid (∀ X, G X → ∀ p ∈ ss, Bx4 X p.1 p.2) ∧ Hid (∀ X, G X → Below w.heap.size w X) ∧ Hid (∀ X B o v, G X → W.heap.size ≤ B → G (X.setCell ⟨B, o, none⟩ v)) ∧ G W :=
  ⟨fun X => (∀ p ∈ bs, Bx2 X p.1 p.2) ∧ (∀ p ∈ ss, Bx4 X p.1 p.2) ∧ Below w.heap.size w X, fun _ _ h hb => ⟨fun p hp => (h.1 p hp).below hb, fun p hp => (h.2.1 p hp).below hb, below_trans h.2.2 hb⟩, fun _ h => h.1, fun _ h => h.2.1, fun _ h => h.2.2, fun _ B _ _ hX hb => ⟨fun p hp => (hX.1 p hp).other (by have := (h p hp).lt; simp; omega) _, fun p hp => (hX.2.1 p hp).other (by have := (h4 p hp).lt; simp; omega) _, hX.2.2.setCell (by have := hB.size; simp; omega) _⟩, ⟨h, h4, hB⟩⟩
set_option maxRecDepth 100000 in
set_option maxHeartbeats 1000000 in
theorem masked_eq {k b m : M.Blk} (h : M.mask k b = m) (w : World) :
    Calls Tryd.prog 73 #[(.agg #[.int .u64 (M.nu k.1), .int .u64 (M.nu k.2)]), (.agg #[.int .u64 (M.nu b.1), .int .u64 (M.nu b.2)])] w fun e w' => e = .returned (.agg #[.int .u64 (M.nu m.1), .int .u64 (M.nu m.2)]) ∧ Below w.heap.size w w' := by
  obtain ⟨Xk0, Xb0, Xr0, hB0⟩ : Bx2 (((w.alloc (.cells #[.int .u64 (M.nu k.1), .int .u64 (M.nu k.2)] 25)).alloc (.cells #[.int .u64 (M.nu b.1), .int .u64 (M.nu b.2)] 25)).alloc (.cells #[.int .u64 0, .int .u64 0] 25)) w.heap.size k ∧ Bx2 (((w.alloc (.cells #[.int .u64 (M.nu k.1), .int .u64 (M.nu k.2)] 25)).alloc (.cells #[.int .u64 (M.nu b.1), .int .u64 (M.nu b.2)] 25)).alloc (.cells #[.int .u64 0, .int .u64 0] 25)) (w.heap.size + 1) b ∧ Bx2 (((w.alloc (.cells #[.int .u64 (M.nu k.1), .int .u64 (M.nu k.2)] 25)).alloc (.cells #[.int .u64 (M.nu b.1), .int .u64 (M.nu b.2)] 25)).alloc (.cells #[.int .u64 0, .int .u64 0] 25)) (w.heap.size + 1 + 1) (0#64, 0#64) ∧ Below w.heap.size w (((w.alloc (.cells #[.int .u64 (M.nu k.1), .int .u64 (M.nu k.2)] 25)).alloc (.cells #[.int .u64 (M.nu b.1), .int .u64 (M.nu b.2)] 25)).alloc (.cells #[.int .u64 0, .int .u64 0] 25)) := by
    refine ⟨?_, ?_, ?_, below_one (below_one (below_one (Below.refl _ _)))⟩
    · have := Bx2.alloc (Bx2.alloc (Bx2.new w k) (.cells #[.int .u64 (M.nu b.1), .int .u64 (M.nu b.2)] 25)) (.cells #[.int .u64 0, .int .u64 0] 25)
      exact this
    · have := Bx2.alloc (Bx2.new (w.alloc (.cells #[.int .u64 (M.nu k.1), .int .u64 (M.nu k.2)] 25)) b) (.cells #[.int .u64 0, .int .u64 0] 25)
      rw [World.size_alloc] at this; exact this
    · have := Bx2.new ((w.alloc (.cells #[.int .u64 (M.nu k.1), .int .u64 (M.nu k.2)] 25)).alloc (.cells #[.int .u64 (M.nu b.1), .int .u64 (M.nu b.2)] 25)) (0#64, 0#64)
      rw [World.size_alloc, World.size_alloc] at this; exact this
  obtain ⟨p, hp⟩ : ∃ p, M.partV k 3 = p := ⟨_, rfl⟩
  have HX : Hid (M.xor b p = m) := by rw [← hp]; exact h
  have HP := hid' hp
  have HE : Hid (M.partE 3 = 0) := hid' rfl
  clear hp h
  go_enter Tryd.func73, Tryd.ntmps73
  go_wp2_with (first | (go_at_call 66; refine (part_eq HP.out HE.out _).mono ?_; rintro r w1 ⟨rfl, hb1⟩; have Yk1 := Xk0.below hb1; have ck1 := Yk1.cells; have lk1 := Yk1.lt; have Xk1 := Yk1.alloc (.cells #[.int .u64 (M.nu p.1), .int .u64 (M.nu p.2)] 25); have Yb1 := Xb0.below hb1; have cb1 := Yb1.cells; have lb1 := Yb1.lt; have Xb1 := Yb1.alloc (.cells #[.int .u64 (M.nu p.1), .int .u64 (M.nu p.2)] 25); have Yr1 := Xr0.below hb1; have cr1 := Yr1.cells; have lr1 := Yr1.lt; have Xr1 := Yr1.alloc (.cells #[.int .u64 (M.nu p.1), .int .u64 (M.nu p.2)] 25); have Xp1 := Bx2.new w1 p; have hY1 := below_trans hB0 hb1; have hB1 := below_one hY1 (o := (.cells #[.int .u64 (M.nu p.1), .int .u64 (M.nu p.2)] 25)); clear hb1) | (go_at_call 75; refine (xor_eq HX.out _).mono ?_; rintro r w2 ⟨rfl, hb2⟩; have Yk2 := Xk1.below hb2; have ck2 := Yk2.cells; have lk2 := Yk2.lt; have Xk2 := Yk2; have Yb2 := Xb1.below hb2; have cb2 := Yb2.cells; have lb2 := Yb2.lt; have Xb2 := Yb2; have Yr2 := Xr1.below hb2; have cr2 := Yr2.cells; have lr2 := Yr2.lt; have Xr2 := Yr2; have Yp2 := Xp1.below hb2; have cp2 := Yp2.cells; have lp2 := Yp2.lt; have Xp2 := Yp2; have hB2 := below_trans hB1 hb2; clear hb2; obtain ⟨gc0, gc1, gf0, gf1⟩ := Xr2.facts))
  refine bodyPost_ret (v := .agg #[.int .u64 _, .int .u64 _]) (by simp [results, Tryd.results73, go_sem, gc0, gc1]) rfl ⟨rfl, below_set2 hB2 (by omega) _ _⟩
set_option maxRecDepth 100000 in
set_option maxHeartbeats 4000000 in
theorem tag_eq {k c t : M.Blk} (h : M.tag k c = t) (w : World) :
    Calls Tryd.prog 74 #[(.agg #[.int .u64 (M.nu k.1), .int .u64 (M.nu k.2)]), (.agg #[.int .u64 (M.nu c.1), .int .u64 (M.nu c.2)])] w fun e w' => e = .returned (.agg #[.int .u64 (M.nu t.1), .int .u64 (M.nu t.2)]) ∧ Below w.heap.size w w' := by
  obtain ⟨Xk0, Xc0, Xr0, hB0⟩ : Bx2 (((w.alloc (.cells #[.int .u64 (M.nu k.1), .int .u64 (M.nu k.2)] 25)).alloc (.cells #[.int .u64 (M.nu c.1), .int .u64 (M.nu c.2)] 25)).alloc (.cells #[.int .u64 0, .int .u64 0] 25)) w.heap.size k ∧ Bx2 (((w.alloc (.cells #[.int .u64 (M.nu k.1), .int .u64 (M.nu k.2)] 25)).alloc (.cells #[.int .u64 (M.nu c.1), .int .u64 (M.nu c.2)] 25)).alloc (.cells #[.int .u64 0, .int .u64 0] 25)) (w.heap.size + 1) c ∧ Bx2 (((w.alloc (.cells #[.int .u64 (M.nu k.1), .int .u64 (M.nu k.2)] 25)).alloc (.cells #[.int .u64 (M.nu c.1), .int .u64 (M.nu c.2)] 25)).alloc (.cells #[.int .u64 0, .int .u64 0] 25)) (w.heap.size + 1 + 1) (0#64, 0#64) ∧ Below w.heap.size w (((w.alloc (.cells #[.int .u64 (M.nu k.1), .int .u64 (M.nu k.2)] 25)).alloc (.cells #[.int .u64 (M.nu c.1), .int .u64 (M.nu c.2)] 25)).alloc (.cells #[.int .u64 0, .int .u64 0] 25)) := by
    refine ⟨?_, ?_, ?_, below_one (below_one (below_one (Below.refl _ _)))⟩
    · have := Bx2.alloc (Bx2.alloc (Bx2.new w k) (.cells #[.int .u64 (M.nu c.1), .int .u64 (M.nu c.2)] 25)) (.cells #[.int .u64 0, .int .u64 0] 25)
      exact this
    · have := Bx2.alloc (Bx2.new (w.alloc (.cells #[.int .u64 (M.nu k.1), .int .u64 (M.nu k.2)] 25)) c) (.cells #[.int .u64 0, .int .u64 0] 25)
      rw [World.size_alloc] at this; exact this
    · have := Bx2.new ((w.alloc (.cells #[.int .u64 (M.nu k.1), .int .u64 (M.nu k.2)] 25)).alloc (.cells #[.int .u64 (M.nu c.1), .int .u64 (M.nu c.2)] 25)) (0#64, 0#64)
      rw [World.size_alloc, World.size_alloc] at this; exact this
  obtain ⟨p, hp⟩ : ∃ p, M.partV k 4 = p := ⟨_, rfl⟩
  have FV : Hid (M.foldV p (M.octs c) = t) := by rw [← hp]; exact (M.foldV_tag k c).trans h
  have FE := hid' (M.foldE_octs c)
  have HP := hid' hp
  have HE : Hid (M.partE 4 = 0) := hid' rfl
  clear hp h
  go_enter Tryd.func74, Tryd.ntmps74
  go_upto_region 2 with (first | (go_at_call 66; refine (part_eq HP.out HE.out _).mono ?_; rintro r w1 ⟨rfl, hb1⟩; have Yk1 := Xk0.below hb1; have ck1 := Yk1.cells; have lk1 := Yk1.lt; have Xk1 := Yk1.alloc (.cells #[.int .u64 (M.nu p.1), .int .u64 (M.nu p.2)] 25); have Yc1 := Xc0.below hb1; have cc1 := Yc1.cells; have lc1 := Yc1.lt; have Xc1 := Yc1.alloc (.cells #[.int .u64 (M.nu p.1), .int .u64 (M.nu p.2)] 25); have Yr1 := Xr0.below hb1; have cr1 := Yr1.cells; have lr1 := Yr1.lt; have Xr1 := Yr1.alloc (.cells #[.int .u64 (M.nu p.1), .int .u64 (M.nu p.2)] 25); have Xp1 := Bx2.new w1 p; have hY1 := below_trans hB0 hb1; have hB1 := below_one hY1 (o := (.cells #[.int .u64 (M.nu p.1), .int .u64 (M.nu p.2)] 25)); clear hb1))
  generalize hWd : w1.alloc (.cells #[.int .u64 (M.nu p.1), .int .u64 (M.nu p.2)] 25) = W at *
  generalize w1.heap.size = Gp at *
  obtain ⟨G, HG, HF, HL, HSC, gW⟩ := goods w W [(w.heap.size + 1, c), (w.heap.size + 1 + 1, (0#64, 0#64)), (Gp, p)] (by simp; exact ⟨Xc1, Xr1, Xp1⟩) hB1
  have cc := (HF.out W gW (w.heap.size + 1, c) (by simp)).cells
  have cp := (HF.out W gW (Gp, p) (by simp)).cells
  have lc := (HF.out W gW (w.heap.size + 1, c) (by simp)).lt
  have lp := (HF.out W gW (Gp, p) (by simp)).lt
  have nc := Nat.ne_of_gt lc
  have np := Nat.ne_of_gt lp
  have gD := HG.out W W.drew gW (below_d1 (Below.refl _ _))
  clear Xk1 Xc1 Xr1 Xp1 hB1 hWd Xk0 Xc0 Xr0 hB0 Yk1 Yc1 Yr1 ck1 cc1 cr1 lk1 lc1 lr1
  go_cut [7, 8] (fun u v wx => ∃ B, u = .pointer (some ⟨B, 0, none⟩) ∧ v = .int .i64 0 ∧ Bx2 wx B t ∧ G wx)
  case first =>
    go_region_held3 (fun X => X.cell? ⟨w.heap.size + 1, 0, none⟩ = some (.int .u64 (M.nu c.1)) ∧ X.cell? ⟨w.heap.size + 1, 1, none⟩ = some (.int .u64 (M.nu c.2)) ∧ X.cell? ⟨Gp, 0, none⟩ = some (.int .u64 (M.nu p.1)) ∧ X.cell? ⟨Gp, 1, none⟩ = some (.int .u64 (M.nu p.2))) (go_keep)
      (first | (go_at_call 81; refine (octets_at c _).mono ?_; rintro r wo ⟨g, rfl, hg, _, hb⟩; have go := HG.out _ wo (by first | exact gD | exact HG.out _ _ gD (below_one (Below.refl _ _))) hb; have hso : W.heap.size ≤ wo.heap.size := (by have := hb.size; simp at this; omega); (first | (have bz := Bx2.below (B := W.heap.size) (b := (0#64, 0#64)) (by exact Bx2.new W.drew (0#64, 0#64)) hb) | skip); clear hb; have cco := (HF.out wo go (w.heap.size + 1, c) (by simp)).cells; have lco := (HF.out wo go (w.heap.size + 1, c) (by simp)).lt; have cpo := (HF.out wo go (Gp, p) (by simp)).cells; have lpo := (HF.out wo go (Gp, p) (by simp)).lt; have nco := Nat.ne_of_gt lco; have npo := Nat.ne_of_gt lpo) | (go_at_call 80; refine (fold_eq FV.out FE.out _ (by first | exact Bs.of_box hg | exact (Bs.of_box hg).alloc _)).mono ?_; rintro r wf ⟨rfl, hb⟩; have gf := HG.out _ wf (by first | exact go | exact HG.out _ _ go (below_one (Below.refl _ _))) hb; have ccf := (HF.out wf gf (w.heap.size + 1, c) (by simp)).cells; have lcf := (HF.out wf gf (w.heap.size + 1, c) (by simp)).lt; have cpf := (HF.out wf gf (Gp, p) (by simp)).cells; have lpf := (HF.out wf gf (Gp, p) (by simp)).lt; (first | (have bz2 := Bx2.below (B := wo.heap.size) (b := (0#64, 0#64)) (by exact Bx2.new wo (0#64, 0#64)) hb; obtain ⟨z0, z1, zf0, zf1⟩ := bz2.facts) | (have bz2 := bz.below hb; obtain ⟨z0, z1, zf0, zf1⟩ := bz2.facts) | skip); clear hb))
    all_goals go_wp2
    all_goals go_meet
    all_goals first | exact ⟨_, rfl, rfl, Bx2.new wf t, HG.out _ _ gf (below_one (Below.refl _ _))⟩ | exact ⟨_, rfl, rfl, bz2.set t, HSC.out _ _ _ _ (HSC.out _ _ _ _ gf (by omega)) (by omega)⟩
  case rest =>
    obtain ⟨Gt, rfl, rfl, Xt, gc⟩ := hcut
    have ct := Xt.cells
    obtain ⟨gc0, gc1, gf0, gf1⟩ := (HF.out wc gc (w.heap.size + 1 + 1, (0#64, 0#64)) (by simp)).facts
    have hBc := HL.out wc gc
    go_wp2
    refine bodyPost_ret (v := .agg #[.int .u64 _, .int .u64 _]) (by simp [results, Tryd.results74, go_sem, gc0, gc1]) rfl ⟨rfl, below_set2 hBc (by omega) _ _⟩
end Go.Proofs.YtomhccendbnamaaDoor
namespace Go.Proofs.YtomhccendbnamaaDoor
open Go.RowKit
set_option maxRecDepth 100000 in
set_option maxHeartbeats 4000000 in
theorem wrap_eq {k b : M.Blk} {x : M.Sea} (h : M.wrap k b = x) (w : World) :
    Calls Tryd.prog 65 #[(.agg #[.int .u64 (M.nu k.1), .int .u64 (M.nu k.2)]), (.agg #[.int .u64 (M.nu b.1), .int .u64 (M.nu b.2)])] w fun e w' => e = .returned (.agg #[.int .u64 (M.nu x.1.1), .int .u64 (M.nu x.1.2), .int .u64 (M.nu x.2.1), .int .u64 (M.nu x.2.2)]) ∧ Below w.heap.size w w' := by
  obtain ⟨Xk0, Xb0, Xr0, hB0⟩ : Bx2 (((w.alloc (.cells #[.int .u64 (M.nu k.1), .int .u64 (M.nu k.2)] 25)).alloc (.cells #[.int .u64 (M.nu b.1), .int .u64 (M.nu b.2)] 25)).alloc (.cells #[.int .u64 0, .int .u64 0, .int .u64 0, .int .u64 0] 27)) w.heap.size k ∧ Bx2 (((w.alloc (.cells #[.int .u64 (M.nu k.1), .int .u64 (M.nu k.2)] 25)).alloc (.cells #[.int .u64 (M.nu b.1), .int .u64 (M.nu b.2)] 25)).alloc (.cells #[.int .u64 0, .int .u64 0, .int .u64 0, .int .u64 0] 27)) (w.heap.size + 1) b ∧ Bx4 (((w.alloc (.cells #[.int .u64 (M.nu k.1), .int .u64 (M.nu k.2)] 25)).alloc (.cells #[.int .u64 (M.nu b.1), .int .u64 (M.nu b.2)] 25)).alloc (.cells #[.int .u64 0, .int .u64 0, .int .u64 0, .int .u64 0] 27)) (w.heap.size + 1 + 1) ((0#64, 0#64), (0#64, 0#64)) ∧ Below w.heap.size w (((w.alloc (.cells #[.int .u64 (M.nu k.1), .int .u64 (M.nu k.2)] 25)).alloc (.cells #[.int .u64 (M.nu b.1), .int .u64 (M.nu b.2)] 25)).alloc (.cells #[.int .u64 0, .int .u64 0, .int .u64 0, .int .u64 0] 27)) := by
    refine ⟨?_, ?_, ?_, below_one (below_one (below_one (Below.refl _ _)))⟩
    · have := Bx2.alloc (Bx2.alloc (Bx2.new w k) (.cells #[.int .u64 (M.nu b.1), .int .u64 (M.nu b.2)] 25)) (.cells #[.int .u64 0, .int .u64 0, .int .u64 0, .int .u64 0] 27)
      exact this
    · have := Bx2.alloc (Bx2.new (w.alloc (.cells #[.int .u64 (M.nu k.1), .int .u64 (M.nu k.2)] 25)) b) (.cells #[.int .u64 0, .int .u64 0, .int .u64 0, .int .u64 0] 27)
      rw [World.size_alloc] at this; exact this
    · have := Bx4.new ((w.alloc (.cells #[.int .u64 (M.nu k.1), .int .u64 (M.nu k.2)] 25)).alloc (.cells #[.int .u64 (M.nu b.1), .int .u64 (M.nu b.2)] 25)) ((0#64, 0#64), (0#64, 0#64))
      rw [World.size_alloc, World.size_alloc] at this; exact this
  obtain ⟨c, t⟩ := x
  have h1 : M.mask k b = c := congrArg Prod.fst h
  have h2 : M.tag k c = t := by rw [← h1]; exact congrArg Prod.snd h
  have HT := hid' h2
  have HM := hid' h1
  clear h h1 h2
  dsimp only
  go_enter Tryd.func65, Tryd.ntmps65
  go_upto_region 2 with (first | (go_at_call 73; refine (masked_eq HM.out _).mono ?_; rintro r w1 ⟨rfl, hb1⟩; have Yk1 := Xk0.below hb1; have ck1 := Yk1.cells; have lk1 := Yk1.lt; have Xk1 := Yk1.alloc (.cells #[.int .u64 (M.nu c.1), .int .u64 (M.nu c.2)] 25); have Yb1 := Xb0.below hb1; have cb1 := Yb1.cells; have lb1 := Yb1.lt; have Xb1 := Yb1.alloc (.cells #[.int .u64 (M.nu c.1), .int .u64 (M.nu c.2)] 25); have Yr1 := Xr0.below hb1; have cr1 := Yr1.cells; have lr1 := Yr1.lt; have Xr1 := Yr1.alloc (.cells #[.int .u64 (M.nu c.1), .int .u64 (M.nu c.2)] 25); have Xc1 := Bx2.new w1 c; have hY1 := below_trans hB0 hb1; have hB1 := below_one hY1 (o := (.cells #[.int .u64 (M.nu c.1), .int .u64 (M.nu c.2)] 25)); clear hb1))
  generalize hWd : w1.alloc (.cells #[.int .u64 (M.nu c.1), .int .u64 (M.nu c.2)] 25) = W at *
  generalize w1.heap.size = Gc at *
  obtain ⟨G, HG, HF, HS, HL, HSC, gW⟩ := goods4 w W [(w.heap.size, k), (Gc, c)] [(w.heap.size + 1 + 1, ((0#64, 0#64), (0#64, 0#64)))] (by simp; exact ⟨Xk1, Xc1⟩) (by simp; exact Xr1) hB1
  have ck := (HF.out W gW (w.heap.size, k) (by simp)).cells
  have cc := (HF.out W gW (Gc, c) (by simp)).cells
  have gD := HG.out W W.drew gW (below_d1 (Below.refl _ _))
  have n1 : w.heap.size + 1 + 1 ≠ w.heap.size := by omega
  have n2 := Nat.ne_of_lt lr1
  clear Xk1 Xb1 Xr1 Xc1 hB1 hWd
  go_region_held3 (fun X => X.cell? ⟨w.heap.size, 0, none⟩ = some (.int .u64 (M.nu k.1)) ∧ X.cell? ⟨w.heap.size, 1, none⟩ = some (.int .u64 (M.nu k.2)) ∧ X.cell? ⟨Gc, 0, none⟩ = some (.int .u64 (M.nu c.1)) ∧ X.cell? ⟨Gc, 1, none⟩ = some (.int .u64 (M.nu c.2))) (go_keep)
    (first | (go_at_call 74; refine (tag_eq HT.out _).mono ?_; rintro r wt ⟨rfl, hb⟩; have gt := HG.out _ wt gD hb; clear hb; have ckt := (HF.out wt gt (w.heap.size, k) (by simp)).cells; have cct := (HF.out wt gt (Gc, c) (by simp)).cells; have rr := (HS.out wt gt (w.heap.size + 1 + 1, ((0#64, 0#64), (0#64, 0#64))) (by simp)); obtain ⟨r0, r1, r2, r3⟩ := rr.cells; obtain ⟨f0, f1, f2, f3⟩ := rr.frozen; clear rr; have hBt := HL.out wt gt))
  all_goals go_wp2
  all_goals refine bodyPost_ret (v := .agg #[.int .u64 _, .int .u64 _, .int .u64 _, .int .u64 _]) (by simp [results, Tryd.results65, go_sem, r0, r1, r2, r3]) rfl ⟨rfl, below_set4 hBt (by omega) _ _ _ _⟩
end Go.Proofs.YtomhccendbnamaaDoor
namespace Go.Proofs.YtomhccendbnamaaDoor
open Go.RowKit
end Go.Proofs.YtomhccendbnamaaDoor
