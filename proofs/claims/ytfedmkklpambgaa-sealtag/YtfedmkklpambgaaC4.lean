/-
  What Unwrap comes to at every input, in the program and in the document's own answer. No condition.
-/
import Derived.Test.YtfedmkklpambgaaC3
namespace Go.Proofs.Ytfedmkklpambgaa
open Go.RowKit
set_option maxRecDepth 100000 in
set_option maxHeartbeats 4000000 in
theorem unwrap_yes (k : M.Blk) (s : M.Sea) (hT : M.tag k s.1 = s.2) (w : World) :
    Calls Try.prog 9 #[(.agg #[.int .u64 (M.nu k.1), .int .u64 (M.nu k.2)]), (.agg #[.int .u64 (M.nu s.1.1), .int .u64 (M.nu s.1.2), .int .u64 (M.nu s.2.1), .int .u64 (M.nu s.2.2)])] w fun e w' => e = .returned (.tuple #[(.agg #[.int .u64 (M.nu (M.mask k s.1).1), .int .u64 (M.nu (M.mask k s.1).2)]), .int .i64 0]) ∧ Below w.heap.size w w' := by
  have hq := eqS
  obtain ⟨Xk0, Xs0, Xr0, hB0⟩ : Bx2 (((w.alloc (.cells #[.int .u64 (M.nu k.1), .int .u64 (M.nu k.2)] 24)).alloc (.cells #[.int .u64 (M.nu s.1.1), .int .u64 (M.nu s.1.2), .int .u64 (M.nu s.2.1), .int .u64 (M.nu s.2.2)] 26)).alloc (.cells #[.int .u64 0, .int .u64 0] 24)) w.heap.size k ∧ Bx4 (((w.alloc (.cells #[.int .u64 (M.nu k.1), .int .u64 (M.nu k.2)] 24)).alloc (.cells #[.int .u64 (M.nu s.1.1), .int .u64 (M.nu s.1.2), .int .u64 (M.nu s.2.1), .int .u64 (M.nu s.2.2)] 26)).alloc (.cells #[.int .u64 0, .int .u64 0] 24)) (w.heap.size + 1) s ∧ Bx2 (((w.alloc (.cells #[.int .u64 (M.nu k.1), .int .u64 (M.nu k.2)] 24)).alloc (.cells #[.int .u64 (M.nu s.1.1), .int .u64 (M.nu s.1.2), .int .u64 (M.nu s.2.1), .int .u64 (M.nu s.2.2)] 26)).alloc (.cells #[.int .u64 0, .int .u64 0] 24)) (w.heap.size + 1 + 1) (0#64, 0#64) ∧ Below w.heap.size w (((w.alloc (.cells #[.int .u64 (M.nu k.1), .int .u64 (M.nu k.2)] 24)).alloc (.cells #[.int .u64 (M.nu s.1.1), .int .u64 (M.nu s.1.2), .int .u64 (M.nu s.2.1), .int .u64 (M.nu s.2.2)] 26)).alloc (.cells #[.int .u64 0, .int .u64 0] 24)) := by
    refine ⟨?_, ?_, ?_, below_one (below_one (below_one (Below.refl _ _)))⟩
    · have := Bx2.alloc (Bx2.alloc (Bx2.new w k) (.cells #[.int .u64 (M.nu s.1.1), .int .u64 (M.nu s.1.2), .int .u64 (M.nu s.2.1), .int .u64 (M.nu s.2.2)] 26)) (.cells #[.int .u64 0, .int .u64 0] 24)
      exact this
    · have := Bx4.alloc (Bx4.new (w.alloc (.cells #[.int .u64 (M.nu k.1), .int .u64 (M.nu k.2)] 24)) s) (.cells #[.int .u64 0, .int .u64 0] 24)
      rw [World.size_alloc] at this; exact this
    · have := Bx2.new ((w.alloc (.cells #[.int .u64 (M.nu k.1), .int .u64 (M.nu k.2)] 24)).alloc (.cells #[.int .u64 (M.nu s.1.1), .int .u64 (M.nu s.1.2), .int .u64 (M.nu s.2.1), .int .u64 (M.nu s.2.2)] 26)) (0#64, 0#64)
      rw [World.size_alloc, World.size_alloc] at this; exact this
  obtain ⟨m, hm⟩ : ∃ m, M.mask k s.1 = m := ⟨_, rfl⟩
  obtain ⟨t, ht⟩ : ∃ t, M.tag k s.1 = t := ⟨_, rfl⟩
  have HW : Hid (M.wrap k m = s) := by show _ = _; rw [← hm, M.wrap_mask, hT]
  have HM := hid' hm
  rw [hm]
  clear hm hT ht
  go_enter Try.func9, Try.ntmps9
  go_upto_region 2 with (first | (go_at_call 20; refine (masked_eq HM.out _).mono ?_; rintro r w1 ⟨rfl, hb1⟩; have Yk1 := Xk0.below hb1; have ck1 := Yk1.cells; have lk1 := Yk1.lt; have Xk1 := Yk1.alloc (.cells #[.int .u64 (M.nu m.1), .int .u64 (M.nu m.2)] 24); have Ys1 := Xs0.below hb1; have cs1 := Ys1.cells; have ls1 := Ys1.lt; have Xs1 := Ys1.alloc (.cells #[.int .u64 (M.nu m.1), .int .u64 (M.nu m.2)] 24); have Yr1 := Xr0.below hb1; have cr1 := Yr1.cells; have lr1 := Yr1.lt; have Xr1 := Yr1.alloc (.cells #[.int .u64 (M.nu m.1), .int .u64 (M.nu m.2)] 24); have Xb1 := Bx2.new w1 m; have hY1 := below_trans hB0 hb1; have hB1 := below_one hY1 (o := (.cells #[.int .u64 (M.nu m.1), .int .u64 (M.nu m.2)] 24)); clear hb1))
  generalize hWd : w1.alloc (.cells #[.int .u64 (M.nu m.1), .int .u64 (M.nu m.2)] 24) = W at *
  generalize w1.heap.size = Gb at *
  obtain ⟨G, HG, HF, HS, HL, HSC, gW⟩ := goods4 w W [(w.heap.size, k), (w.heap.size + 1 + 1, (0#64, 0#64)), (Gb, m)] [(w.heap.size + 1, s)] (by simp; exact ⟨Xk1, Xr1, Xb1⟩) (by simp; exact Xs1) hB1
  have ck := (HF.out W gW (w.heap.size, k) (by simp)).cells
  have cb := (HF.out W gW (Gb, m) (by simp)).cells
  have cs := (HS.out W gW (w.heap.size + 1, s) (by simp)).cells
  have gD := HG.out W W.drew gW (below_d1 (Below.refl _ _))
  clear Xk1 Xs1 Xr1 Xb1 hB1 hWd
  go_region_held3 (fun X => X.cell? ⟨w.heap.size, 0, none⟩ = some (.int .u64 (M.nu k.1)) ∧ X.cell? ⟨w.heap.size, 1, none⟩ = some (.int .u64 (M.nu k.2)) ∧ X.cell? ⟨Gb, 0, none⟩ = some (.int .u64 (M.nu m.1)) ∧ X.cell? ⟨Gb, 1, none⟩ = some (.int .u64 (M.nu m.2)) ∧ X.cell? ⟨w.heap.size + 1, 0, none⟩ = some (.int .u64 (M.nu s.1.1)) ∧ X.cell? ⟨w.heap.size + 1, 1, none⟩ = some (.int .u64 (M.nu s.1.2)) ∧ X.cell? ⟨w.heap.size + 1, 2, none⟩ = some (.int .u64 (M.nu s.2.1)) ∧ X.cell? ⟨w.heap.size + 1, 3, none⟩ = some (.int .u64 (M.nu s.2.2))) (go_keep)
    (first | (go_at_call 13; refine (wrap_eq HW.out _).mono ?_; rintro r wt ⟨rfl, hb⟩; have gt := HG.out _ wt gD hb; clear hb; have ckt := (HF.out wt gt (w.heap.size, k) (by simp)).cells; have cbt := (HF.out wt gt (Gb, m) (by simp)).cells; have cst := (HS.out wt gt (w.heap.size + 1, s) (by simp)).cells; have rr := (HF.out wt gt (w.heap.size + 1 + 1, (0#64, 0#64)) (by simp)); obtain ⟨r0, r1, f0, f1⟩ := rr.facts; clear rr; have hBt := HL.out wt gt))
  all_goals go_wp2
  all_goals refine bodyPost_ret (v := .tuple #[.agg #[.int .u64 _, .int .u64 _], .int .i64 0]) (by simp [results, Try.results9, go_sem, r0, r1]) rfl ⟨rfl, below_set2 hBt (by omega) _ _⟩
set_option maxRecDepth 100000 in
set_option maxHeartbeats 4000000 in
theorem unwrap_no (k : M.Blk) (s : M.Sea) (hT : ¬ M.tag k s.1 = s.2) (w : World) :
    Calls Try.prog 9 #[(.agg #[.int .u64 (M.nu k.1), .int .u64 (M.nu k.2)]), (.agg #[.int .u64 (M.nu s.1.1), .int .u64 (M.nu s.1.2), .int .u64 (M.nu s.2.1), .int .u64 (M.nu s.2.2)])] w fun e w' => e = .returned (.tuple #[(.agg #[.int .u64 0, .int .u64 0]), .int .i64 7]) ∧ Below w.heap.size w w' := by
  have hq := eqS
  obtain ⟨Xk0, Xs0, Xr0, hB0⟩ : Bx2 (((w.alloc (.cells #[.int .u64 (M.nu k.1), .int .u64 (M.nu k.2)] 24)).alloc (.cells #[.int .u64 (M.nu s.1.1), .int .u64 (M.nu s.1.2), .int .u64 (M.nu s.2.1), .int .u64 (M.nu s.2.2)] 26)).alloc (.cells #[.int .u64 0, .int .u64 0] 24)) w.heap.size k ∧ Bx4 (((w.alloc (.cells #[.int .u64 (M.nu k.1), .int .u64 (M.nu k.2)] 24)).alloc (.cells #[.int .u64 (M.nu s.1.1), .int .u64 (M.nu s.1.2), .int .u64 (M.nu s.2.1), .int .u64 (M.nu s.2.2)] 26)).alloc (.cells #[.int .u64 0, .int .u64 0] 24)) (w.heap.size + 1) s ∧ Bx2 (((w.alloc (.cells #[.int .u64 (M.nu k.1), .int .u64 (M.nu k.2)] 24)).alloc (.cells #[.int .u64 (M.nu s.1.1), .int .u64 (M.nu s.1.2), .int .u64 (M.nu s.2.1), .int .u64 (M.nu s.2.2)] 26)).alloc (.cells #[.int .u64 0, .int .u64 0] 24)) (w.heap.size + 1 + 1) (0#64, 0#64) ∧ Below w.heap.size w (((w.alloc (.cells #[.int .u64 (M.nu k.1), .int .u64 (M.nu k.2)] 24)).alloc (.cells #[.int .u64 (M.nu s.1.1), .int .u64 (M.nu s.1.2), .int .u64 (M.nu s.2.1), .int .u64 (M.nu s.2.2)] 26)).alloc (.cells #[.int .u64 0, .int .u64 0] 24)) := by
    refine ⟨?_, ?_, ?_, below_one (below_one (below_one (Below.refl _ _)))⟩
    · have := Bx2.alloc (Bx2.alloc (Bx2.new w k) (.cells #[.int .u64 (M.nu s.1.1), .int .u64 (M.nu s.1.2), .int .u64 (M.nu s.2.1), .int .u64 (M.nu s.2.2)] 26)) (.cells #[.int .u64 0, .int .u64 0] 24)
      exact this
    · have := Bx4.alloc (Bx4.new (w.alloc (.cells #[.int .u64 (M.nu k.1), .int .u64 (M.nu k.2)] 24)) s) (.cells #[.int .u64 0, .int .u64 0] 24)
      rw [World.size_alloc] at this; exact this
    · have := Bx2.new ((w.alloc (.cells #[.int .u64 (M.nu k.1), .int .u64 (M.nu k.2)] 24)).alloc (.cells #[.int .u64 (M.nu s.1.1), .int .u64 (M.nu s.1.2), .int .u64 (M.nu s.2.1), .int .u64 (M.nu s.2.2)] 26)) (0#64, 0#64)
      rw [World.size_alloc, World.size_alloc] at this; exact this
  obtain ⟨m, hm⟩ : ∃ m, M.mask k s.1 = m := ⟨_, rfl⟩
  obtain ⟨t, ht⟩ : ∃ t, M.tag k s.1 = t := ⟨_, rfl⟩
  have HW : Hid (M.wrap k m = (s.1, t)) := by show _ = _; rw [← hm, M.wrap_mask, ht]
  have hne : (M.nu t.1 == M.nu s.2.1 && M.nu t.2 == M.nu s.2.2) = false := by rw [blk_beq, ← ht]; simpa using hT
  have HM := hid' hm
  skip
  clear hm hT ht
  go_enter Try.func9, Try.ntmps9
  go_upto_region 2 with (first | (go_at_call 20; refine (masked_eq HM.out _).mono ?_; rintro r w1 ⟨rfl, hb1⟩; have Yk1 := Xk0.below hb1; have ck1 := Yk1.cells; have lk1 := Yk1.lt; have Xk1 := Yk1.alloc (.cells #[.int .u64 (M.nu m.1), .int .u64 (M.nu m.2)] 24); have Ys1 := Xs0.below hb1; have cs1 := Ys1.cells; have ls1 := Ys1.lt; have Xs1 := Ys1.alloc (.cells #[.int .u64 (M.nu m.1), .int .u64 (M.nu m.2)] 24); have Yr1 := Xr0.below hb1; have cr1 := Yr1.cells; have lr1 := Yr1.lt; have Xr1 := Yr1.alloc (.cells #[.int .u64 (M.nu m.1), .int .u64 (M.nu m.2)] 24); have Xb1 := Bx2.new w1 m; have hY1 := below_trans hB0 hb1; have hB1 := below_one hY1 (o := (.cells #[.int .u64 (M.nu m.1), .int .u64 (M.nu m.2)] 24)); clear hb1))
  generalize hWd : w1.alloc (.cells #[.int .u64 (M.nu m.1), .int .u64 (M.nu m.2)] 24) = W at *
  generalize w1.heap.size = Gb at *
  obtain ⟨G, HG, HF, HS, HL, HSC, gW⟩ := goods4 w W [(w.heap.size, k), (w.heap.size + 1 + 1, (0#64, 0#64)), (Gb, m)] [(w.heap.size + 1, s)] (by simp; exact ⟨Xk1, Xr1, Xb1⟩) (by simp; exact Xs1) hB1
  have ck := (HF.out W gW (w.heap.size, k) (by simp)).cells
  have cb := (HF.out W gW (Gb, m) (by simp)).cells
  have cs := (HS.out W gW (w.heap.size + 1, s) (by simp)).cells
  have gD := HG.out W W.drew gW (below_d1 (Below.refl _ _))
  clear Xk1 Xs1 Xr1 Xb1 hB1 hWd
  go_region_held3 (fun X => X.cell? ⟨w.heap.size, 0, none⟩ = some (.int .u64 (M.nu k.1)) ∧ X.cell? ⟨w.heap.size, 1, none⟩ = some (.int .u64 (M.nu k.2)) ∧ X.cell? ⟨Gb, 0, none⟩ = some (.int .u64 (M.nu m.1)) ∧ X.cell? ⟨Gb, 1, none⟩ = some (.int .u64 (M.nu m.2)) ∧ X.cell? ⟨w.heap.size + 1, 0, none⟩ = some (.int .u64 (M.nu s.1.1)) ∧ X.cell? ⟨w.heap.size + 1, 1, none⟩ = some (.int .u64 (M.nu s.1.2)) ∧ X.cell? ⟨w.heap.size + 1, 2, none⟩ = some (.int .u64 (M.nu s.2.1)) ∧ X.cell? ⟨w.heap.size + 1, 3, none⟩ = some (.int .u64 (M.nu s.2.2))) (go_keep)
    (first | (go_at_call 13; refine (wrap_eq HW.out _).mono ?_; rintro r wt ⟨rfl, hb⟩; have gt := HG.out _ wt gD hb; clear hb; have ckt := (HF.out wt gt (w.heap.size, k) (by simp)).cells; have cbt := (HF.out wt gt (Gb, m) (by simp)).cells; have cst := (HS.out wt gt (w.heap.size + 1, s) (by simp)).cells; have rr := (HF.out wt gt (w.heap.size + 1 + 1, (0#64, 0#64)) (by simp)); obtain ⟨r0, r1, f0, f1⟩ := rr.facts; clear rr; have hBt := HL.out wt gt))
  all_goals go_wp2
  all_goals refine bodyPost_ret (v := .tuple #[.agg #[.int .u64 _, .int .u64 _], .int .i64 7]) (by simp [results, Try.results9, go_sem, r0, r1]) rfl ⟨rfl, below_set2 hBt (by omega) _ _⟩
set_option maxRecDepth 100000 in
set_option maxHeartbeats 4000000 in
theorem runwrap_yes (k : M.Blk) (s : M.Sea) (hT : M.tag k s.1 = s.2) (w : World) :
    Calls Try.prog 10 #[(.agg #[.int .u64 (M.nu k.1), .int .u64 (M.nu k.2)]), (.agg #[.int .u64 (M.nu s.1.1), .int .u64 (M.nu s.1.2), .int .u64 (M.nu s.2.1), .int .u64 (M.nu s.2.2)])] w fun e w' => e = .returned (.tuple #[(.agg #[.int .u64 (M.nu (M.mask k s.1).1), .int .u64 (M.nu (M.mask k s.1).2)]), .int .i64 0]) ∧ Below w.heap.size w w' := by
  have hq := eqB
  obtain ⟨Xk0, Xs0, Xr0, hB0⟩ : Bx2 (((w.alloc (.cells #[.int .u64 (M.nu k.1), .int .u64 (M.nu k.2)] 24)).alloc (.cells #[.int .u64 (M.nu s.1.1), .int .u64 (M.nu s.1.2), .int .u64 (M.nu s.2.1), .int .u64 (M.nu s.2.2)] 26)).alloc (.cells #[.int .u64 0, .int .u64 0] 24)) w.heap.size k ∧ Bx4 (((w.alloc (.cells #[.int .u64 (M.nu k.1), .int .u64 (M.nu k.2)] 24)).alloc (.cells #[.int .u64 (M.nu s.1.1), .int .u64 (M.nu s.1.2), .int .u64 (M.nu s.2.1), .int .u64 (M.nu s.2.2)] 26)).alloc (.cells #[.int .u64 0, .int .u64 0] 24)) (w.heap.size + 1) s ∧ Bx2 (((w.alloc (.cells #[.int .u64 (M.nu k.1), .int .u64 (M.nu k.2)] 24)).alloc (.cells #[.int .u64 (M.nu s.1.1), .int .u64 (M.nu s.1.2), .int .u64 (M.nu s.2.1), .int .u64 (M.nu s.2.2)] 26)).alloc (.cells #[.int .u64 0, .int .u64 0] 24)) (w.heap.size + 1 + 1) (0#64, 0#64) ∧ Below w.heap.size w (((w.alloc (.cells #[.int .u64 (M.nu k.1), .int .u64 (M.nu k.2)] 24)).alloc (.cells #[.int .u64 (M.nu s.1.1), .int .u64 (M.nu s.1.2), .int .u64 (M.nu s.2.1), .int .u64 (M.nu s.2.2)] 26)).alloc (.cells #[.int .u64 0, .int .u64 0] 24)) := by
    refine ⟨?_, ?_, ?_, below_one (below_one (below_one (Below.refl _ _)))⟩
    · have := Bx2.alloc (Bx2.alloc (Bx2.new w k) (.cells #[.int .u64 (M.nu s.1.1), .int .u64 (M.nu s.1.2), .int .u64 (M.nu s.2.1), .int .u64 (M.nu s.2.2)] 26)) (.cells #[.int .u64 0, .int .u64 0] 24)
      exact this
    · have := Bx4.alloc (Bx4.new (w.alloc (.cells #[.int .u64 (M.nu k.1), .int .u64 (M.nu k.2)] 24)) s) (.cells #[.int .u64 0, .int .u64 0] 24)
      rw [World.size_alloc] at this; exact this
    · have := Bx2.new ((w.alloc (.cells #[.int .u64 (M.nu k.1), .int .u64 (M.nu k.2)] 24)).alloc (.cells #[.int .u64 (M.nu s.1.1), .int .u64 (M.nu s.1.2), .int .u64 (M.nu s.2.1), .int .u64 (M.nu s.2.2)] 26)) (0#64, 0#64)
      rw [World.size_alloc, World.size_alloc] at this; exact this
  obtain ⟨m, hm⟩ : ∃ m, M.mask k s.1 = m := ⟨_, rfl⟩
  obtain ⟨p, hp⟩ : ∃ p, M.partV k 3 = p := ⟨_, rfl⟩
  obtain ⟨t, ht⟩ : ∃ t, M.tag k s.1 = t := ⟨_, rfl⟩
  have HT : Hid (M.tag k s.1 = s.2) := hid' hT
  have HM : Hid (M.xor s.1 p = m) := by rw [← hp]; exact hm
  have HP := hid' hp
  have HE : Hid (M.partE 3 = 0) := hid' rfl
  rw [hm]
  clear hm hT ht hp
  go_enter Try.func10, Try.ntmps10
  go_wp2
  generalize hWd : ((w.alloc (.cells #[.int .u64 (M.nu k.1), .int .u64 (M.nu k.2)] 24)).alloc (.cells #[.int .u64 (M.nu s.1.1), .int .u64 (M.nu s.1.2), .int .u64 (M.nu s.2.1), .int .u64 (M.nu s.2.2)] 26)).alloc (.cells #[.int .u64 0, .int .u64 0] 24) = W at *
  obtain ⟨G, HG, HF, HS, HL, HSC, gW⟩ := goods4 w W [(w.heap.size, k), (w.heap.size + 1 + 1, (0#64, 0#64))] [(w.heap.size + 1, s)] (by simp; exact ⟨Xk0, Xr0⟩) (by simp; exact Xs0) hB0
  have ck := (HF.out W gW (w.heap.size, k) (by simp)).cells
  have cs := (HS.out W gW (w.heap.size + 1, s) (by simp)).cells
  have gD := HG.out W W.drew gW (below_d1 (Below.refl _ _))
  clear Xk0 Xs0 Xr0 hB0 hWd
  go_region_held3 (fun X => X.cell? ⟨w.heap.size, 0, none⟩ = some (.int .u64 (M.nu k.1)) ∧ X.cell? ⟨w.heap.size, 1, none⟩ = some (.int .u64 (M.nu k.2)) ∧ X.cell? ⟨w.heap.size + 1, 0, none⟩ = some (.int .u64 (M.nu s.1.1)) ∧ X.cell? ⟨w.heap.size + 1, 1, none⟩ = some (.int .u64 (M.nu s.1.2)) ∧ X.cell? ⟨w.heap.size + 1, 2, none⟩ = some (.int .u64 (M.nu s.2.1)) ∧ X.cell? ⟨w.heap.size + 1, 3, none⟩ = some (.int .u64 (M.nu s.2.2))) (go_keep)
    (first | (go_at_call 16; refine (rtag_eq HT.out _).mono ?_; rintro r w1 ⟨rfl, hb⟩; have gt := HG.out _ w1 gD hb; clear hb; have ckt := (HF.out w1 gt (w.heap.size, k) (by simp)).cells; have cst := (HS.out w1 gt (w.heap.size + 1, s) (by simp)).cells; have Xk1 := HF.out w1 gt (w.heap.size, k) (by simp); have Xs1 := HS.out w1 gt (w.heap.size + 1, s) (by simp); have Xr1 := HF.out w1 gt (w.heap.size + 1 + 1, (0#64, 0#64)) (by simp); have hB1 := HL.out w1 gt))
  all_goals go_wp2_with (first | (go_at_call 21; refine (rpart_eq HP.out HE.out _).mono ?_; rintro r w2 ⟨rfl, hb2⟩; have Yk2 := Xk1.below hb2; have ck2 := Yk2.cells; have lk2 := Yk2.lt; have Xk2 := Yk2.alloc (.cells #[.int .u64 (M.nu p.1), .int .u64 (M.nu p.2)] 24); have Ys2 := Xs1.below hb2; have cs2 := Ys2.cells; have ls2 := Ys2.lt; have Xs2 := Ys2.alloc (.cells #[.int .u64 (M.nu p.1), .int .u64 (M.nu p.2)] 24); have Yr2 := Xr1.below hb2; have cr2 := Yr2.cells; have lr2 := Yr2.lt; have Xr2 := Yr2.alloc (.cells #[.int .u64 (M.nu p.1), .int .u64 (M.nu p.2)] 24); have Xp2 := Bx2.new w2 p; have hY2 := below_trans hB1 hb2; have hB2 := below_one hY2 (o := (.cells #[.int .u64 (M.nu p.1), .int .u64 (M.nu p.2)] 24)); clear hb2) | (go_at_call 22; refine (rxor_eq HM.out _).mono ?_; rintro r w3 ⟨rfl, hb3⟩; have Yk3 := Xk2.below hb3; have ck3 := Yk3.cells; have lk3 := Yk3.lt; have Xk3 := Yk3; have Ys3 := Xs2.below hb3; have cs3 := Ys3.cells; have ls3 := Ys3.lt; have Xs3 := Ys3; have Yr3 := Xr2.below hb3; have cr3 := Yr3.cells; have lr3 := Yr3.lt; have Xr3 := Yr3; have Yp3 := Xp2.below hb3; have cp3 := Yp3.cells; have lp3 := Yp3.lt; have Xp3 := Yp3; have hB3 := below_trans hB2 hb3; clear hb3; obtain ⟨r0, r1, f0, f1⟩ := Xr3.facts))
  all_goals refine bodyPost_ret (v := .tuple #[.agg #[.int .u64 _, .int .u64 _], .int .i64 0]) (by simp [results, Try.results10, go_sem, r0, r1]) rfl ⟨rfl, below_set2 hB3 (by omega) _ _⟩
set_option maxRecDepth 100000 in
set_option maxHeartbeats 4000000 in
theorem runwrap_no (k : M.Blk) (s : M.Sea) (hT : ¬ M.tag k s.1 = s.2) (w : World) :
    Calls Try.prog 10 #[(.agg #[.int .u64 (M.nu k.1), .int .u64 (M.nu k.2)]), (.agg #[.int .u64 (M.nu s.1.1), .int .u64 (M.nu s.1.2), .int .u64 (M.nu s.2.1), .int .u64 (M.nu s.2.2)])] w fun e w' => e = .returned (.tuple #[(.agg #[.int .u64 0, .int .u64 0]), .int .i64 7]) ∧ Below w.heap.size w w' := by
  have hq := eqB
  obtain ⟨Xk0, Xs0, Xr0, hB0⟩ : Bx2 (((w.alloc (.cells #[.int .u64 (M.nu k.1), .int .u64 (M.nu k.2)] 24)).alloc (.cells #[.int .u64 (M.nu s.1.1), .int .u64 (M.nu s.1.2), .int .u64 (M.nu s.2.1), .int .u64 (M.nu s.2.2)] 26)).alloc (.cells #[.int .u64 0, .int .u64 0] 24)) w.heap.size k ∧ Bx4 (((w.alloc (.cells #[.int .u64 (M.nu k.1), .int .u64 (M.nu k.2)] 24)).alloc (.cells #[.int .u64 (M.nu s.1.1), .int .u64 (M.nu s.1.2), .int .u64 (M.nu s.2.1), .int .u64 (M.nu s.2.2)] 26)).alloc (.cells #[.int .u64 0, .int .u64 0] 24)) (w.heap.size + 1) s ∧ Bx2 (((w.alloc (.cells #[.int .u64 (M.nu k.1), .int .u64 (M.nu k.2)] 24)).alloc (.cells #[.int .u64 (M.nu s.1.1), .int .u64 (M.nu s.1.2), .int .u64 (M.nu s.2.1), .int .u64 (M.nu s.2.2)] 26)).alloc (.cells #[.int .u64 0, .int .u64 0] 24)) (w.heap.size + 1 + 1) (0#64, 0#64) ∧ Below w.heap.size w (((w.alloc (.cells #[.int .u64 (M.nu k.1), .int .u64 (M.nu k.2)] 24)).alloc (.cells #[.int .u64 (M.nu s.1.1), .int .u64 (M.nu s.1.2), .int .u64 (M.nu s.2.1), .int .u64 (M.nu s.2.2)] 26)).alloc (.cells #[.int .u64 0, .int .u64 0] 24)) := by
    refine ⟨?_, ?_, ?_, below_one (below_one (below_one (Below.refl _ _)))⟩
    · have := Bx2.alloc (Bx2.alloc (Bx2.new w k) (.cells #[.int .u64 (M.nu s.1.1), .int .u64 (M.nu s.1.2), .int .u64 (M.nu s.2.1), .int .u64 (M.nu s.2.2)] 26)) (.cells #[.int .u64 0, .int .u64 0] 24)
      exact this
    · have := Bx4.alloc (Bx4.new (w.alloc (.cells #[.int .u64 (M.nu k.1), .int .u64 (M.nu k.2)] 24)) s) (.cells #[.int .u64 0, .int .u64 0] 24)
      rw [World.size_alloc] at this; exact this
    · have := Bx2.new ((w.alloc (.cells #[.int .u64 (M.nu k.1), .int .u64 (M.nu k.2)] 24)).alloc (.cells #[.int .u64 (M.nu s.1.1), .int .u64 (M.nu s.1.2), .int .u64 (M.nu s.2.1), .int .u64 (M.nu s.2.2)] 26)) (0#64, 0#64)
      rw [World.size_alloc, World.size_alloc] at this; exact this
  obtain ⟨m, hm⟩ : ∃ m, M.mask k s.1 = m := ⟨_, rfl⟩
  obtain ⟨p, hp⟩ : ∃ p, M.partV k 3 = p := ⟨_, rfl⟩
  obtain ⟨t, ht⟩ : ∃ t, M.tag k s.1 = t := ⟨_, rfl⟩
  have hne : (M.nu s.2.1 == M.nu t.1 && M.nu s.2.2 == M.nu t.2) = false := by rw [blk_beq, ← ht]; simpa using fun h => hT h.symm
  have HT : Hid (M.tag k s.1 = t) := hid' ht
  have HM : Hid (M.xor s.1 p = m) := by rw [← hp]; exact hm
  have HP := hid' hp
  have HE : Hid (M.partE 3 = 0) := hid' rfl
  skip
  clear hm hT ht hp
  go_enter Try.func10, Try.ntmps10
  go_wp2
  generalize hWd : ((w.alloc (.cells #[.int .u64 (M.nu k.1), .int .u64 (M.nu k.2)] 24)).alloc (.cells #[.int .u64 (M.nu s.1.1), .int .u64 (M.nu s.1.2), .int .u64 (M.nu s.2.1), .int .u64 (M.nu s.2.2)] 26)).alloc (.cells #[.int .u64 0, .int .u64 0] 24) = W at *
  obtain ⟨G, HG, HF, HS, HL, HSC, gW⟩ := goods4 w W [(w.heap.size, k), (w.heap.size + 1 + 1, (0#64, 0#64))] [(w.heap.size + 1, s)] (by simp; exact ⟨Xk0, Xr0⟩) (by simp; exact Xs0) hB0
  have ck := (HF.out W gW (w.heap.size, k) (by simp)).cells
  have cs := (HS.out W gW (w.heap.size + 1, s) (by simp)).cells
  have gD := HG.out W W.drew gW (below_d1 (Below.refl _ _))
  clear Xk0 Xs0 Xr0 hB0 hWd
  go_region_held3 (fun X => X.cell? ⟨w.heap.size, 0, none⟩ = some (.int .u64 (M.nu k.1)) ∧ X.cell? ⟨w.heap.size, 1, none⟩ = some (.int .u64 (M.nu k.2)) ∧ X.cell? ⟨w.heap.size + 1, 0, none⟩ = some (.int .u64 (M.nu s.1.1)) ∧ X.cell? ⟨w.heap.size + 1, 1, none⟩ = some (.int .u64 (M.nu s.1.2)) ∧ X.cell? ⟨w.heap.size + 1, 2, none⟩ = some (.int .u64 (M.nu s.2.1)) ∧ X.cell? ⟨w.heap.size + 1, 3, none⟩ = some (.int .u64 (M.nu s.2.2))) (go_keep)
    (first | (go_at_call 16; refine (rtag_eq HT.out _).mono ?_; rintro r w1 ⟨rfl, hb⟩; have gt := HG.out _ w1 gD hb; clear hb; have ckt := (HF.out w1 gt (w.heap.size, k) (by simp)).cells; have cst := (HS.out w1 gt (w.heap.size + 1, s) (by simp)).cells; have Xk1 := HF.out w1 gt (w.heap.size, k) (by simp); have Xs1 := HS.out w1 gt (w.heap.size + 1, s) (by simp); have Xr1 := HF.out w1 gt (w.heap.size + 1 + 1, (0#64, 0#64)) (by simp); have hB1 := HL.out w1 gt))
  all_goals obtain ⟨r0, r1, f0, f1⟩ := Xr1.facts
  all_goals go_wp2
  all_goals refine bodyPost_ret (v := .tuple #[.agg #[.int .u64 _, .int .u64 _], .int .i64 7]) (by simp [results, Try.results10, go_sem, r0, r1]) rfl ⟨rfl, below_set2 hB1 (by omega) _ _⟩
theorem unwrap_eq {k : M.Blk} {s : M.Sea} {x : M.Blk} {n : Int} (h : M.unV k s = x) (hn : M.unE k s = n) (w : World) :
    Calls Try.prog 9 #[(.agg #[.int .u64 (M.nu k.1), .int .u64 (M.nu k.2)]), (.agg #[.int .u64 (M.nu s.1.1), .int .u64 (M.nu s.1.2), .int .u64 (M.nu s.2.1), .int .u64 (M.nu s.2.2)])] w fun e w' => e = .returned (.tuple #[(.agg #[.int .u64 (M.nu x.1), .int .u64 (M.nu x.2)]), .int .i64 n]) ∧ Below w.heap.size w w' := by
  by_cases hT : M.tag k s.1 = s.2
  · rw [← h, ← hn, show M.unV k s = M.mask k s.1 from if_pos hT, show M.unE k s = 0 from if_pos hT]; exact unwrap_yes k s hT w
  · rw [← h, ← hn, show M.unV k s = (0#64, 0#64) from if_neg hT, show M.unE k s = 7 from if_neg hT]; exact unwrap_no k s hT w
theorem runwrap_eq {k : M.Blk} {s : M.Sea} {x : M.Blk} {n : Int} (h : M.unV k s = x) (hn : M.unE k s = n) (w : World) :
    Calls Try.prog 10 #[(.agg #[.int .u64 (M.nu k.1), .int .u64 (M.nu k.2)]), (.agg #[.int .u64 (M.nu s.1.1), .int .u64 (M.nu s.1.2), .int .u64 (M.nu s.2.1), .int .u64 (M.nu s.2.2)])] w fun e w' => e = .returned (.tuple #[(.agg #[.int .u64 (M.nu x.1), .int .u64 (M.nu x.2)]), .int .i64 n]) ∧ Below w.heap.size w w' := by
  by_cases hT : M.tag k s.1 = s.2
  · rw [← h, ← hn, show M.unV k s = M.mask k s.1 from if_pos hT, show M.unE k s = 0 from if_pos hT]; exact runwrap_yes k s hT w
  · rw [← h, ← hn, show M.unV k s = (0#64, 0#64) from if_neg hT, show M.unE k s = 7 from if_neg hT]; exact runwrap_no k s hT w
end Go.Proofs.Ytfedmkklpambgaa
