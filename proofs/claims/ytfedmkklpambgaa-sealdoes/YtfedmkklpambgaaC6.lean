/-
  What Of comes to at every input, in the program and in the document's own answer. Condition: the slice holds octets.
-/
import Derived.Test.YtfedmkklpambgaaC5
namespace Go.Proofs.Ytfedmkklpambgaa
open Go.RowKit
set_option maxRecDepth 100000 in
set_option maxHeartbeats 4000000 in
theorem sof_yes (L : List Int) (v : Value) (h32 : L.length = 32) (w : World) (hu : Bs w v L) :
    Calls Try.prog 11 #[v] w fun e w' => e = .returned (.tuple #[(.agg #[.int .u64 (M.nu (M.sofV L).1.1), .int .u64 (M.nu (M.sofV L).1.2), .int .u64 (M.nu (M.sofV L).2.1), .int .u64 (M.nu (M.sofV L).2.2)]), .int .i64 0]) ∧ Below w.heap.size w w' := by
  obtain ⟨Xr0, hB0⟩ : Bx4 (w.alloc (.cells #[.int .u64 0, .int .u64 0, .int .u64 0, .int .u64 0] 26)) w.heap.size ((0#64, 0#64), (0#64, 0#64)) ∧ Below w.heap.size w (w.alloc (.cells #[.int .u64 0, .int .u64 0, .int .u64 0, .int .u64 0] 26)) := by
    refine ⟨?_, below_one (Below.refl _ _)⟩
    · have := Bx4.new w ((0#64, 0#64), (0#64, 0#64))
      exact this
  obtain ⟨c, hc⟩ : ∃ c, M.ofOct (M.fillF (L.take 16)) = c := ⟨_, rfl⟩
  obtain ⟨t, ht⟩ : ∃ t, M.ofOct (M.fillF (L.drop 16)) = t := ⟨_, rfl⟩
  have hv : M.sofV L = (c, t) := by unfold M.sofV; rw [if_pos h32, hc, ht]
  rw [hv]
  have l1 : (L.take 16).length = 16 := by rw [List.length_take]; omega
  have l2 : (L.drop 16).length = 16 := by rw [List.length_drop]; omega
  have O1 : Hid (M.ofV (L.take 16) = c) := by show _ = _; rw [← hc]; exact if_pos l1
  have O2 : Hid (M.ofE (L.take 16) = 0) := if_pos l1
  have O3 : Hid (M.ofV (L.drop 16) = t) := by show _ = _; rw [← ht]; exact if_pos l2
  have O4 : Hid (M.ofE (L.drop 16) = 0) := if_pos l2
  obtain ⟨b, off, cap, rfl, q1, _⟩ := hu.src (by omega)
  have HU1 : Hid (Bs w (.slice (some ⟨b, off, none⟩) 16 cap) (L.take 16)) := hu.take (by omega)
  have HU2 : Hid (Bs w (.slice (some ⟨b, off + 16, none⟩) 16 (cap - 16)) (L.drop 16)) := by
    have := (hu.rest (E := 16) (by omega) (by decide)).1 (by omega)
    rw [h32] at this; exact this
  rw [h32] at q1
  rw [h32]
  have hcap : ¬ cap = 16 := by omega
  have T1 := hid' trivial
  clear hu hc ht hv l1 l2 h32
  dsimp only
  go_enter Try.func11, Try.ntmps11
  go_wp2_with (first | (go_at_call 23; clear T1; refine (of_eq O1.out O2.out _ (HU1.out.below hB0)).mono ?_; rintro r w1 ⟨rfl, hb1⟩; have Yr1 := Xr0.below hb1; have cr1 := Yr1.cells; have lr1 := Yr1.lt; have Xr1 := Yr1.alloc (.cells #[.int .u64 (M.nu c.1), .int .u64 (M.nu c.2)] 24); have Xc1 := Bx2.new w1 c; have hY1 := below_trans hB0 hb1; have hB1 := below_one hY1 (o := (.cells #[.int .u64 (M.nu c.1), .int .u64 (M.nu c.2)] 24)); clear hb1) | (go_at_call 23; refine (of_eq O3.out O4.out _ (HU2.out.below hB1)).mono ?_; rintro r w2 ⟨rfl, hb2⟩; have Yr2 := Xr1.below hb2; have cr2 := Yr2.cells; have lr2 := Yr2.lt; have Xr2 := Yr2.alloc (.cells #[.int .u64 (M.nu t.1), .int .u64 (M.nu t.2)] 24); have Yc2 := Xc1.below hb2; have cc2 := Yc2.cells; have lc2 := Yc2.lt; have Xc2 := Yc2.alloc (.cells #[.int .u64 (M.nu t.1), .int .u64 (M.nu t.2)] 24); have Xt2 := Bx2.new w2 t; have hY2 := below_trans hB1 hb2; have hB2 := below_one hY2 (o := (.cells #[.int .u64 (M.nu t.1), .int .u64 (M.nu t.2)] 24)); clear hb2; obtain ⟨r0, r1, r2, r3⟩ := Yr2.cells; obtain ⟨f0, f1, f2, f3⟩ := Yr2.frozen))
  refine bodyPost_ret (v := .tuple #[.agg #[.int .u64 _, .int .u64 _, .int .u64 _, .int .u64 _], .int .i64 0]) (by simp [results, Try.results11, go_sem, r0, r1, r2, r3, lr2]) rfl ⟨rfl, below_one (below_set4 hY2 (by omega) _ _ _ _)⟩
set_option maxHeartbeats 1000000 in
theorem sof_no (L : List Int) (v : Value) (h32 : ¬ L.length = 32) (w : World) (hu : Bs w v L) :
    Calls Try.prog 11 #[v] w fun e w' => e = .returned (.tuple #[.agg #[.int .u64 0, .int .u64 0, .int .u64 0, .int .u64 0], .int .i64 2]) ∧ Below w.heap.size w w' := by
  obtain ⟨ao, cap, rfl, q1, q2, q3, q4⟩ := hu
  have h32i : ¬ (L.length : Int) = 32 := by omega
  clear q4 q3
  generalize L.length = m at *
  go_enter Try.func11, Try.ntmps11
  go_wp2
  refine bodyPost_ret (v := .tuple #[.agg #[.int .u64 0, .int .u64 0, .int .u64 0, .int .u64 0], .int .i64 2]) (by simp [results, Try.results11, go_sem]) rfl ⟨rfl, ?_⟩
  exact below_one (Below.refl _ _)
theorem sof_eq {L : List Int} {x : M.Sea} {n : Int} (h : M.sofV L = x) (hn : M.sofE L = n) {v : Value} (w : World) (hu : Bs w v L) :
    Calls Try.prog 11 #[v] w fun e w' => e = .returned (.tuple #[(.agg #[.int .u64 (M.nu x.1.1), .int .u64 (M.nu x.1.2), .int .u64 (M.nu x.2.1), .int .u64 (M.nu x.2.2)]), .int .i64 n]) ∧ Below w.heap.size w w' := by
  by_cases h32 : L.length = 32
  · rw [← h, ← hn, show M.sofE L = 0 from if_pos h32]; exact sof_yes L v h32 w hu
  · rw [← h, ← hn, show M.sofV L = ((0#64, 0#64), (0#64, 0#64)) from if_neg h32, show M.sofE L = 2 from if_neg h32]; exact sof_no L v h32 w hu
set_option maxRecDepth 100000 in
set_option maxHeartbeats 4000000 in
theorem rsof_yes (L : List Int) (v : Value) (h32 : L.length = 32) (w : World) (hu : Bs w v L) :
    Calls Try.prog 12 #[v] w fun e w' => e = .returned (.tuple #[(.agg #[.int .u64 (M.nu (M.sofV L).1.1), .int .u64 (M.nu (M.sofV L).1.2), .int .u64 (M.nu (M.sofV L).2.1), .int .u64 (M.nu (M.sofV L).2.2)]), .int .i64 0]) ∧ Below w.heap.size w w' := by
  obtain ⟨Xr0, hB0⟩ : Bx4 (w.alloc (.cells #[.int .u64 0, .int .u64 0, .int .u64 0, .int .u64 0] 26)) w.heap.size ((0#64, 0#64), (0#64, 0#64)) ∧ Below w.heap.size w (w.alloc (.cells #[.int .u64 0, .int .u64 0, .int .u64 0, .int .u64 0] 26)) := by
    refine ⟨?_, below_one (Below.refl _ _)⟩
    · have := Bx4.new w ((0#64, 0#64), (0#64, 0#64))
      exact this
  obtain ⟨c, hc⟩ : ∃ c, M.ofOct (M.fillF (L.take 16)) = c := ⟨_, rfl⟩
  obtain ⟨t, ht⟩ : ∃ t, M.ofOct (M.fillF (L.drop 16)) = t := ⟨_, rfl⟩
  have hv : M.sofV L = (c, t) := by unfold M.sofV; rw [if_pos h32, hc, ht]
  rw [hv]
  have l1 : (L.take 16).length = 16 := by rw [List.length_take]; omega
  have l2 : (L.drop 16).length = 16 := by rw [List.length_drop]; omega
  have O1 : Hid (M.ofV (L.take 16) = c) := by show _ = _; rw [← hc]; exact if_pos l1
  have O2 : Hid (M.ofE (L.take 16) = 0) := if_pos l1
  have O3 : Hid (M.ofV (L.drop 16) = t) := by show _ = _; rw [← ht]; exact if_pos l2
  have O4 : Hid (M.ofE (L.drop 16) = 0) := if_pos l2
  obtain ⟨b, off, cap, rfl, q1, _⟩ := hu.src (by omega)
  have HU1 : Hid (Bs w (.slice (some ⟨b, off, none⟩) 16 cap) (L.take 16)) := hu.take (by omega)
  have HU2 : Hid (Bs w (.slice (some ⟨b, off + 16, none⟩) 16 (cap - 16)) (L.drop 16)) := by
    have := (hu.rest (E := 16) (by omega) (by decide)).1 (by omega)
    rw [h32] at this; exact this
  rw [h32] at q1
  rw [h32]
  have hcap : ¬ cap = 16 := by omega
  have T1 := hid' trivial
  clear hu hc ht hv l1 l2 h32
  dsimp only
  go_enter Try.func12, Try.ntmps12
  go_wp2_with (first | (go_at_call 24; clear T1; refine (rof_eq O1.out O2.out _ (HU1.out.below hB0)).mono ?_; rintro r w1 ⟨rfl, hb1⟩; have Yr1 := Xr0.below hb1; have cr1 := Yr1.cells; have lr1 := Yr1.lt; have Xr1 := Yr1.alloc (.cells #[.int .u64 (M.nu c.1), .int .u64 (M.nu c.2)] 24); have Xc1 := Bx2.new w1 c; have hY1 := below_trans hB0 hb1; have hB1 := below_one hY1 (o := (.cells #[.int .u64 (M.nu c.1), .int .u64 (M.nu c.2)] 24)); clear hb1) | (go_at_call 24; refine (rof_eq O3.out O4.out _ (HU2.out.below hB1)).mono ?_; rintro r w2 ⟨rfl, hb2⟩; have Yr2 := Xr1.below hb2; have cr2 := Yr2.cells; have lr2 := Yr2.lt; have Xr2 := Yr2.alloc (.cells #[.int .u64 (M.nu t.1), .int .u64 (M.nu t.2)] 24); have Yc2 := Xc1.below hb2; have cc2 := Yc2.cells; have lc2 := Yc2.lt; have Xc2 := Yc2.alloc (.cells #[.int .u64 (M.nu t.1), .int .u64 (M.nu t.2)] 24); have Xt2 := Bx2.new w2 t; have hY2 := below_trans hB1 hb2; have hB2 := below_one hY2 (o := (.cells #[.int .u64 (M.nu t.1), .int .u64 (M.nu t.2)] 24)); clear hb2; obtain ⟨r0, r1, r2, r3⟩ := Yr2.cells; obtain ⟨f0, f1, f2, f3⟩ := Yr2.frozen))
  refine bodyPost_ret (v := .tuple #[.agg #[.int .u64 _, .int .u64 _, .int .u64 _, .int .u64 _], .int .i64 0]) (by simp [results, Try.results12, go_sem, r0, r1, r2, r3, lr2]) rfl ⟨rfl, below_one (below_set4 hY2 (by omega) _ _ _ _)⟩
set_option maxHeartbeats 1000000 in
theorem rsof_no (L : List Int) (v : Value) (h32 : ¬ L.length = 32) (w : World) (hu : Bs w v L) :
    Calls Try.prog 12 #[v] w fun e w' => e = .returned (.tuple #[.agg #[.int .u64 0, .int .u64 0, .int .u64 0, .int .u64 0], .int .i64 2]) ∧ Below w.heap.size w w' := by
  obtain ⟨ao, cap, rfl, q1, q2, q3, q4⟩ := hu
  have h32i : ¬ (L.length : Int) = 32 := by omega
  clear q4 q3
  generalize L.length = m at *
  go_enter Try.func12, Try.ntmps12
  go_wp2
  refine bodyPost_ret (v := .tuple #[.agg #[.int .u64 0, .int .u64 0, .int .u64 0, .int .u64 0], .int .i64 2]) (by simp [results, Try.results12, go_sem]) rfl ⟨rfl, ?_⟩
  exact below_one (Below.refl _ _)
theorem rsof_eq {L : List Int} {x : M.Sea} {n : Int} (h : M.sofV L = x) (hn : M.sofE L = n) {v : Value} (w : World) (hu : Bs w v L) :
    Calls Try.prog 12 #[v] w fun e w' => e = .returned (.tuple #[(.agg #[.int .u64 (M.nu x.1.1), .int .u64 (M.nu x.1.2), .int .u64 (M.nu x.2.1), .int .u64 (M.nu x.2.2)]), .int .i64 n]) ∧ Below w.heap.size w w' := by
  by_cases h32 : L.length = 32
  · rw [← h, ← hn, show M.sofE L = 0 from if_pos h32]; exact rsof_yes L v h32 w hu
  · rw [← h, ← hn, show M.sofV L = ((0#64, 0#64), (0#64, 0#64)) from if_neg h32, show M.sofE L = 2 from if_neg h32]; exact rsof_no L v h32 w hu
end Go.Proofs.Ytfedmkklpambgaa
