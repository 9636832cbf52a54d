/-
  What Wrap comes to at every input, in the program and in the document's own answer. No condition.
-/
import Derived.Test.YtfedmkklpambgaaC2
namespace Go.Proofs.Ytfedmkklpambgaa
open Go.RowKit
set_option maxRecDepth 100000 in
set_option maxHeartbeats 4000000 in
theorem wrap_eq {k b : M.Blk} {x : M.Sea} (h : M.wrap k b = x) (w : World) :
    Calls Try.prog 13 #[(.agg #[.int .u64 (M.nu k.1), .int .u64 (M.nu k.2)]), (.agg #[.int .u64 (M.nu b.1), .int .u64 (M.nu b.2)])] w fun e w' => e = .returned (.agg #[.int .u64 (M.nu x.1.1), .int .u64 (M.nu x.1.2), .int .u64 (M.nu x.2.1), .int .u64 (M.nu x.2.2)]) ∧ Below w.heap.size w w' := by
  obtain ⟨Xk0, Xb0, Xr0, hB0⟩ : Bx2 (((w.alloc (.cells #[.int .u64 (M.nu k.1), .int .u64 (M.nu k.2)] 24)).alloc (.cells #[.int .u64 (M.nu b.1), .int .u64 (M.nu b.2)] 24)).alloc (.cells #[.int .u64 0, .int .u64 0, .int .u64 0, .int .u64 0] 26)) w.heap.size k ∧ Bx2 (((w.alloc (.cells #[.int .u64 (M.nu k.1), .int .u64 (M.nu k.2)] 24)).alloc (.cells #[.int .u64 (M.nu b.1), .int .u64 (M.nu b.2)] 24)).alloc (.cells #[.int .u64 0, .int .u64 0, .int .u64 0, .int .u64 0] 26)) (w.heap.size + 1) b ∧ Bx4 (((w.alloc (.cells #[.int .u64 (M.nu k.1), .int .u64 (M.nu k.2)] 24)).alloc (.cells #[.int .u64 (M.nu b.1), .int .u64 (M.nu b.2)] 24)).alloc (.cells #[.int .u64 0, .int .u64 0, .int .u64 0, .int .u64 0] 26)) (w.heap.size + 1 + 1) ((0#64, 0#64), (0#64, 0#64)) ∧ Below w.heap.size w (((w.alloc (.cells #[.int .u64 (M.nu k.1), .int .u64 (M.nu k.2)] 24)).alloc (.cells #[.int .u64 (M.nu b.1), .int .u64 (M.nu b.2)] 24)).alloc (.cells #[.int .u64 0, .int .u64 0, .int .u64 0, .int .u64 0] 26)) := by
    refine ⟨?_, ?_, ?_, below_one (below_one (below_one (Below.refl _ _)))⟩
    · have := Bx2.alloc (Bx2.alloc (Bx2.new w k) (.cells #[.int .u64 (M.nu b.1), .int .u64 (M.nu b.2)] 24)) (.cells #[.int .u64 0, .int .u64 0, .int .u64 0, .int .u64 0] 26)
      exact this
    · have := Bx2.alloc (Bx2.new (w.alloc (.cells #[.int .u64 (M.nu k.1), .int .u64 (M.nu k.2)] 24)) b) (.cells #[.int .u64 0, .int .u64 0, .int .u64 0, .int .u64 0] 26)
      rw [World.size_alloc] at this; exact this
    · have := Bx4.new ((w.alloc (.cells #[.int .u64 (M.nu k.1), .int .u64 (M.nu k.2)] 24)).alloc (.cells #[.int .u64 (M.nu b.1), .int .u64 (M.nu b.2)] 24)) ((0#64, 0#64), (0#64, 0#64))
      rw [World.size_alloc, World.size_alloc] at this; exact this
  obtain ⟨c, t⟩ := x
  have h1 : M.mask k b = c := congrArg Prod.fst h
  have h2 : M.tag k c = t := by rw [← h1]; exact congrArg Prod.snd h
  have HT := hid' h2
  have HM := hid' h1
  clear h h1 h2
  dsimp only
  go_enter Try.func13, Try.ntmps13
  go_upto_region 2 with (first | (go_at_call 20; refine (masked_eq HM.out _).mono ?_; rintro r w1 ⟨rfl, hb1⟩; have Yk1 := Xk0.below hb1; have ck1 := Yk1.cells; have lk1 := Yk1.lt; have Xk1 := Yk1.alloc (.cells #[.int .u64 (M.nu c.1), .int .u64 (M.nu c.2)] 24); have Yb1 := Xb0.below hb1; have cb1 := Yb1.cells; have lb1 := Yb1.lt; have Xb1 := Yb1.alloc (.cells #[.int .u64 (M.nu c.1), .int .u64 (M.nu c.2)] 24); have Yr1 := Xr0.below hb1; have cr1 := Yr1.cells; have lr1 := Yr1.lt; have Xr1 := Yr1.alloc (.cells #[.int .u64 (M.nu c.1), .int .u64 (M.nu c.2)] 24); have Xc1 := Bx2.new w1 c; have hY1 := below_trans hB0 hb1; have hB1 := below_one hY1 (o := (.cells #[.int .u64 (M.nu c.1), .int .u64 (M.nu c.2)] 24)); clear hb1))
  generalize hWd : w1.alloc (.cells #[.int .u64 (M.nu c.1), .int .u64 (M.nu c.2)] 24) = W at *
  generalize w1.heap.size = Gc at *
  obtain ⟨G, HG, HF, HS, HL, HSC, gW⟩ := goods4 w W [(w.heap.size, k), (Gc, c)] [(w.heap.size + 1 + 1, ((0#64, 0#64), (0#64, 0#64)))] (by simp; exact ⟨Xk1, Xc1⟩) (by simp; exact Xr1) hB1
  have ck := (HF.out W gW (w.heap.size, k) (by simp)).cells
  have cc := (HF.out W gW (Gc, c) (by simp)).cells
  have gD := HG.out W W.drew gW (below_d1 (Below.refl _ _))
  have n1 : w.heap.size + 1 + 1 ≠ w.heap.size := by omega
  have n2 := Nat.ne_of_lt lr1
  clear Xk1 Xb1 Xr1 Xc1 hB1 hWd
  go_region_held3 (fun X => X.cell? ⟨w.heap.size, 0, none⟩ = some (.int .u64 (M.nu k.1)) ∧ X.cell? ⟨w.heap.size, 1, none⟩ = some (.int .u64 (M.nu k.2)) ∧ X.cell? ⟨Gc, 0, none⟩ = some (.int .u64 (M.nu c.1)) ∧ X.cell? ⟨Gc, 1, none⟩ = some (.int .u64 (M.nu c.2))) (go_keep)
    (first | (go_at_call 15; refine (tag_eq HT.out _).mono ?_; rintro r wt ⟨rfl, hb⟩; have gt := HG.out _ wt gD hb; clear hb; have ckt := (HF.out wt gt (w.heap.size, k) (by simp)).cells; have cct := (HF.out wt gt (Gc, c) (by simp)).cells; have rr := (HS.out wt gt (w.heap.size + 1 + 1, ((0#64, 0#64), (0#64, 0#64))) (by simp)); obtain ⟨r0, r1, r2, r3⟩ := rr.cells; obtain ⟨f0, f1, f2, f3⟩ := rr.frozen; clear rr; have hBt := HL.out wt gt))
  all_goals go_wp2
  all_goals refine bodyPost_ret (v := .agg #[.int .u64 _, .int .u64 _, .int .u64 _, .int .u64 _]) (by simp [results, Try.results13, go_sem, r0, r1, r2, r3]) rfl ⟨rfl, below_set4 hBt (by omega) _ _ _ _⟩
set_option maxRecDepth 100000 in
set_option maxHeartbeats 4000000 in
theorem rwrap_eq {k b : M.Blk} {x : M.Sea} (h : M.wrap k b = x) (w : World) :
    Calls Try.prog 14 #[(.agg #[.int .u64 (M.nu k.1), .int .u64 (M.nu k.2)]), (.agg #[.int .u64 (M.nu b.1), .int .u64 (M.nu b.2)])] w fun e w' => e = .returned (.agg #[.int .u64 (M.nu x.1.1), .int .u64 (M.nu x.1.2), .int .u64 (M.nu x.2.1), .int .u64 (M.nu x.2.2)]) ∧ Below w.heap.size w w' := by
  obtain ⟨Xk0, Xb0, Xr0, hB0⟩ : Bx2 (((w.alloc (.cells #[.int .u64 (M.nu k.1), .int .u64 (M.nu k.2)] 24)).alloc (.cells #[.int .u64 (M.nu b.1), .int .u64 (M.nu b.2)] 24)).alloc (.cells #[.int .u64 0, .int .u64 0, .int .u64 0, .int .u64 0] 26)) w.heap.size k ∧ Bx2 (((w.alloc (.cells #[.int .u64 (M.nu k.1), .int .u64 (M.nu k.2)] 24)).alloc (.cells #[.int .u64 (M.nu b.1), .int .u64 (M.nu b.2)] 24)).alloc (.cells #[.int .u64 0, .int .u64 0, .int .u64 0, .int .u64 0] 26)) (w.heap.size + 1) b ∧ Bx4 (((w.alloc (.cells #[.int .u64 (M.nu k.1), .int .u64 (M.nu k.2)] 24)).alloc (.cells #[.int .u64 (M.nu b.1), .int .u64 (M.nu b.2)] 24)).alloc (.cells #[.int .u64 0, .int .u64 0, .int .u64 0, .int .u64 0] 26)) (w.heap.size + 1 + 1) ((0#64, 0#64), (0#64, 0#64)) ∧ Below w.heap.size w (((w.alloc (.cells #[.int .u64 (M.nu k.1), .int .u64 (M.nu k.2)] 24)).alloc (.cells #[.int .u64 (M.nu b.1), .int .u64 (M.nu b.2)] 24)).alloc (.cells #[.int .u64 0, .int .u64 0, .int .u64 0, .int .u64 0] 26)) := by
    refine ⟨?_, ?_, ?_, below_one (below_one (below_one (Below.refl _ _)))⟩
    · have := Bx2.alloc (Bx2.alloc (Bx2.new w k) (.cells #[.int .u64 (M.nu b.1), .int .u64 (M.nu b.2)] 24)) (.cells #[.int .u64 0, .int .u64 0, .int .u64 0, .int .u64 0] 26)
      exact this
    · have := Bx2.alloc (Bx2.new (w.alloc (.cells #[.int .u64 (M.nu k.1), .int .u64 (M.nu k.2)] 24)) b) (.cells #[.int .u64 0, .int .u64 0, .int .u64 0, .int .u64 0] 26)
      rw [World.size_alloc] at this; exact this
    · have := Bx4.new ((w.alloc (.cells #[.int .u64 (M.nu k.1), .int .u64 (M.nu k.2)] 24)).alloc (.cells #[.int .u64 (M.nu b.1), .int .u64 (M.nu b.2)] 24)) ((0#64, 0#64), (0#64, 0#64))
      rw [World.size_alloc, World.size_alloc] at this; exact this
  obtain ⟨c, t⟩ := x
  have h1 : M.mask k b = c := congrArg Prod.fst h
  have h2 : M.tag k c = t := by rw [← h1]; exact congrArg Prod.snd h
  have HT := hid' h2
  obtain ⟨p, hp⟩ : ∃ p, M.partV k 3 = p := ⟨_, rfl⟩
  have HX : Hid (M.xor b p = c) := by rw [← hp]; exact h1
  have HP := hid' hp
  have HE : Hid (M.partE 3 = 0) := hid' rfl
  clear hp
  clear h h1 h2
  dsimp only
  go_enter Try.func14, Try.ntmps14
  go_upto_region 3 with (first | (go_at_call 21; refine (rpart_eq HP.out HE.out _).mono ?_; rintro r w1 ⟨rfl, hb1⟩; have Yk1 := Xk0.below hb1; have ck1 := Yk1.cells; have lk1 := Yk1.lt; have Xk1 := Yk1.alloc (.cells #[.int .u64 (M.nu p.1), .int .u64 (M.nu p.2)] 24); have Yb1 := Xb0.below hb1; have cb1 := Yb1.cells; have lb1 := Yb1.lt; have Xb1 := Yb1.alloc (.cells #[.int .u64 (M.nu p.1), .int .u64 (M.nu p.2)] 24); have Yr1 := Xr0.below hb1; have cr1 := Yr1.cells; have lr1 := Yr1.lt; have Xr1 := Yr1.alloc (.cells #[.int .u64 (M.nu p.1), .int .u64 (M.nu p.2)] 24); have Xp1 := Bx2.new w1 p; have hY1 := below_trans hB0 hb1; have hB1 := below_one hY1 (o := (.cells #[.int .u64 (M.nu p.1), .int .u64 (M.nu p.2)] 24)); clear hb1) | (go_at_call 22; refine (rxor_eq HX.out _).mono ?_; rintro r w2 ⟨rfl, hb2⟩; have Yk2 := Xk1.below hb2; have ck2 := Yk2.cells; have lk2 := Yk2.lt; have Xk2 := Yk2.alloc (.cells #[.int .u64 (M.nu c.1), .int .u64 (M.nu c.2)] 24); have Yb2 := Xb1.below hb2; have cb2 := Yb2.cells; have lb2 := Yb2.lt; have Xb2 := Yb2.alloc (.cells #[.int .u64 (M.nu c.1), .int .u64 (M.nu c.2)] 24); have Yr2 := Xr1.below hb2; have cr2 := Yr2.cells; have lr2 := Yr2.lt; have Xr2 := Yr2.alloc (.cells #[.int .u64 (M.nu c.1), .int .u64 (M.nu c.2)] 24); have Yp2 := Xp1.below hb2; have cp2 := Yp2.cells; have lp2 := Yp2.lt; have Xp2 := Yp2.alloc (.cells #[.int .u64 (M.nu c.1), .int .u64 (M.nu c.2)] 24); have Xc2 := Bx2.new w2 c; have hY2 := below_trans hB1 hb2; have hB2 := below_one hY2 (o := (.cells #[.int .u64 (M.nu c.1), .int .u64 (M.nu c.2)] 24)); clear hb2))
  generalize hWd : w2.alloc (.cells #[.int .u64 (M.nu c.1), .int .u64 (M.nu c.2)] 24) = W at *
  generalize w2.heap.size = Gc at *
  obtain ⟨G, HG, HF, HS, HL, HSC, gW⟩ := goods4 w W [(w.heap.size, k), (Gc, c)] [(w.heap.size + 1 + 1, ((0#64, 0#64), (0#64, 0#64)))] (by simp; exact ⟨Xk2, Xc2⟩) (by simp; exact Xr2) hB2
  have ck := (HF.out W gW (w.heap.size, k) (by simp)).cells
  have cc := (HF.out W gW (Gc, c) (by simp)).cells
  have gD := HG.out W W.drew gW (below_d1 (Below.refl _ _))
  have n1 : w.heap.size + 1 + 1 ≠ w.heap.size := by omega
  have n2 := Nat.ne_of_lt lr2
  clear Xk2 Xb2 Xr2 Xp2 Xc2 hB2 hWd
  go_region_held3 (fun X => X.cell? ⟨w.heap.size, 0, none⟩ = some (.int .u64 (M.nu k.1)) ∧ X.cell? ⟨w.heap.size, 1, none⟩ = some (.int .u64 (M.nu k.2)) ∧ X.cell? ⟨Gc, 0, none⟩ = some (.int .u64 (M.nu c.1)) ∧ X.cell? ⟨Gc, 1, none⟩ = some (.int .u64 (M.nu c.2))) (go_keep)
    (first | (go_at_call 16; refine (rtag_eq HT.out _).mono ?_; rintro r wt ⟨rfl, hb⟩; have gt := HG.out _ wt gD hb; clear hb; have ckt := (HF.out wt gt (w.heap.size, k) (by simp)).cells; have cct := (HF.out wt gt (Gc, c) (by simp)).cells; have rr := (HS.out wt gt (w.heap.size + 1 + 1, ((0#64, 0#64), (0#64, 0#64))) (by simp)); obtain ⟨r0, r1, r2, r3⟩ := rr.cells; obtain ⟨f0, f1, f2, f3⟩ := rr.frozen; clear rr; have hBt := HL.out wt gt))
  all_goals go_wp2
  all_goals refine bodyPost_ret (v := .agg #[.int .u64 _, .int .u64 _, .int .u64 _, .int .u64 _]) (by simp [results, Try.results14, go_sem, r0, r1, r2, r3]) rfl ⟨rfl, below_set4 hBt (by omega) _ _ _ _⟩
end Go.Proofs.Ytfedmkklpambgaa
