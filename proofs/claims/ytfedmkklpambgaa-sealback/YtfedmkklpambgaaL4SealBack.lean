/-
  The law SealBack: what is wrapped is taken out with the same key; what is taken out, wrapped again, is what it was taken out of; no two blocks, wrapped with one key, are the same. No condition.
-/
import Derived.Test.YtfedmkklpambgaaC7
namespace Go.Proofs.Ytfedmkklpambgaa
open Go.RowKit
set_option maxRecDepth 100000 in
set_option maxHeartbeats 4000000 in
theorem sealBack_walk (k a b : M.Blk) (s : M.Sea) (w : World) :
    Calls Try.prog 4 #[blkV k, blkV a, blkV b, seaV s] w fun e w' => e = .returned (.bool true) ∧ Below w.heap.size w w' := by
  have hq := eqB
  have hq4 := eqS
  obtain ⟨Xk0, Xa0, Xb0, Xs0, hB0⟩ : Bx2 ((((w.alloc (.cells #[.int .u64 (M.nu k.1), .int .u64 (M.nu k.2)] 24)).alloc (.cells #[.int .u64 (M.nu a.1), .int .u64 (M.nu a.2)] 24)).alloc (.cells #[.int .u64 (M.nu b.1), .int .u64 (M.nu b.2)] 24)).alloc (.cells #[.int .u64 (M.nu s.1.1), .int .u64 (M.nu s.1.2), .int .u64 (M.nu s.2.1), .int .u64 (M.nu s.2.2)] 26)) w.heap.size k ∧ Bx2 ((((w.alloc (.cells #[.int .u64 (M.nu k.1), .int .u64 (M.nu k.2)] 24)).alloc (.cells #[.int .u64 (M.nu a.1), .int .u64 (M.nu a.2)] 24)).alloc (.cells #[.int .u64 (M.nu b.1), .int .u64 (M.nu b.2)] 24)).alloc (.cells #[.int .u64 (M.nu s.1.1), .int .u64 (M.nu s.1.2), .int .u64 (M.nu s.2.1), .int .u64 (M.nu s.2.2)] 26)) (w.heap.size + 1) a ∧ Bx2 ((((w.alloc (.cells #[.int .u64 (M.nu k.1), .int .u64 (M.nu k.2)] 24)).alloc (.cells #[.int .u64 (M.nu a.1), .int .u64 (M.nu a.2)] 24)).alloc (.cells #[.int .u64 (M.nu b.1), .int .u64 (M.nu b.2)] 24)).alloc (.cells #[.int .u64 (M.nu s.1.1), .int .u64 (M.nu s.1.2), .int .u64 (M.nu s.2.1), .int .u64 (M.nu s.2.2)] 26)) (w.heap.size + 1 + 1) b ∧ Bx4 ((((w.alloc (.cells #[.int .u64 (M.nu k.1), .int .u64 (M.nu k.2)] 24)).alloc (.cells #[.int .u64 (M.nu a.1), .int .u64 (M.nu a.2)] 24)).alloc (.cells #[.int .u64 (M.nu b.1), .int .u64 (M.nu b.2)] 24)).alloc (.cells #[.int .u64 (M.nu s.1.1), .int .u64 (M.nu s.1.2), .int .u64 (M.nu s.2.1), .int .u64 (M.nu s.2.2)] 26)) (w.heap.size + 1 + 1 + 1) s ∧ Below w.heap.size w ((((w.alloc (.cells #[.int .u64 (M.nu k.1), .int .u64 (M.nu k.2)] 24)).alloc (.cells #[.int .u64 (M.nu a.1), .int .u64 (M.nu a.2)] 24)).alloc (.cells #[.int .u64 (M.nu b.1), .int .u64 (M.nu b.2)] 24)).alloc (.cells #[.int .u64 (M.nu s.1.1), .int .u64 (M.nu s.1.2), .int .u64 (M.nu s.2.1), .int .u64 (M.nu s.2.2)] 26)) := by
    refine ⟨?_, ?_, ?_, ?_, below_one (below_one (below_one (below_one (Below.refl _ _))))⟩
    · have := Bx2.alloc (Bx2.alloc (Bx2.alloc (Bx2.new w k) (.cells #[.int .u64 (M.nu a.1), .int .u64 (M.nu a.2)] 24)) (.cells #[.int .u64 (M.nu b.1), .int .u64 (M.nu b.2)] 24)) (.cells #[.int .u64 (M.nu s.1.1), .int .u64 (M.nu s.1.2), .int .u64 (M.nu s.2.1), .int .u64 (M.nu s.2.2)] 26)
      exact this
    · have := Bx2.alloc (Bx2.alloc (Bx2.new (w.alloc (.cells #[.int .u64 (M.nu k.1), .int .u64 (M.nu k.2)] 24)) a) (.cells #[.int .u64 (M.nu b.1), .int .u64 (M.nu b.2)] 24)) (.cells #[.int .u64 (M.nu s.1.1), .int .u64 (M.nu s.1.2), .int .u64 (M.nu s.2.1), .int .u64 (M.nu s.2.2)] 26)
      rw [World.size_alloc] at this; exact this
    · have := Bx2.alloc (Bx2.new ((w.alloc (.cells #[.int .u64 (M.nu k.1), .int .u64 (M.nu k.2)] 24)).alloc (.cells #[.int .u64 (M.nu a.1), .int .u64 (M.nu a.2)] 24)) b) (.cells #[.int .u64 (M.nu s.1.1), .int .u64 (M.nu s.1.2), .int .u64 (M.nu s.2.1), .int .u64 (M.nu s.2.2)] 26)
      rw [World.size_alloc, World.size_alloc] at this; exact this
    · have := Bx4.new (((w.alloc (.cells #[.int .u64 (M.nu k.1), .int .u64 (M.nu k.2)] 24)).alloc (.cells #[.int .u64 (M.nu a.1), .int .u64 (M.nu a.2)] 24)).alloc (.cells #[.int .u64 (M.nu b.1), .int .u64 (M.nu b.2)] 24)) s
      rw [World.size_alloc, World.size_alloc, World.size_alloc] at this; exact this
  obtain ⟨x, hx⟩ : ∃ x, M.wrap k a = x := ⟨_, rfl⟩
  obtain ⟨y, hy⟩ : ∃ y, M.wrap k b = y := ⟨_, rfl⟩
  have HV : Hid (M.unV k x = a) := by rw [← hx]; exact M.unV_wrap k a
  have HN : Hid (M.unE k x = 0) := by rw [← hx]; exact M.unE_wrap k a
  have HX := hid' hx
  have HY := hid' hy
  obtain ⟨q, hq1, hq2⟩ : ∃ q : Bool, ((M.nu x.1.1 == M.nu y.1.1 && M.nu x.1.2 == M.nu y.1.2) && (M.nu x.2.1 == M.nu y.2.1 && M.nu x.2.2 == M.nu y.2.2)) = q ∧ (M.nu a.1 == M.nu b.1 && M.nu a.2 == M.nu b.2) = q := by
    refine ⟨_, rfl, ?_⟩
    rw [sea_beq, blk_beq, ← hx, ← hy]
    simp only [M.wrap_inj]
  clear hx hy
  unfold blkV seaV
  by_cases hT : M.tag k s.1 = s.2
  · skip
    have HE : Hid (M.unE k s = 0) := if_pos hT
    obtain ⟨u, hu⟩ : ∃ u, M.unV k s = u := ⟨_, rfl⟩
    have HW : Hid (M.wrap k u = s) := by rw [← hu]; exact M.wrap_unV k s hT
    have HU := hid' hu
    clear hu hT
    go_enter Try.func4, Try.ntmps4
    go_wp2_with (first | (go_at_call 8; refine (live4_any _).mono ?_; rintro r w1 ⟨rfl, hb1⟩; have Yk1 := Xk0.below hb1; have ck1 := Yk1.cells; have lk1 := Yk1.lt; have Xk1 := Yk1; have Ya1 := Xa0.below hb1; have ca1 := Ya1.cells; have la1 := Ya1.lt; have Xa1 := Ya1; have Yb1 := Xb0.below hb1; have cb1 := Yb1.cells; have lb1 := Yb1.lt; have Xb1 := Yb1; have Ys1 := Xs0.below hb1; have cs1 := Ys1.cells; have ls1 := Ys1.lt; have Xs1 := Ys1; have hB1 := below_trans hB0 hb1; clear hb1) | (go_at_call 13; refine (wrap_eq HX.out _).mono ?_; rintro r w2 ⟨rfl, hb2⟩; have Yk2 := Xk1.below hb2; have ck2 := Yk2.cells; have lk2 := Yk2.lt; have Xk2 := Yk2.alloc (.cells #[.int .u64 (M.nu x.1.1), .int .u64 (M.nu x.1.2), .int .u64 (M.nu x.2.1), .int .u64 (M.nu x.2.2)] 26); have Ya2 := Xa1.below hb2; have ca2 := Ya2.cells; have la2 := Ya2.lt; have Xa2 := Ya2.alloc (.cells #[.int .u64 (M.nu x.1.1), .int .u64 (M.nu x.1.2), .int .u64 (M.nu x.2.1), .int .u64 (M.nu x.2.2)] 26); have Yb2 := Xb1.below hb2; have cb2 := Yb2.cells; have lb2 := Yb2.lt; have Xb2 := Yb2.alloc (.cells #[.int .u64 (M.nu x.1.1), .int .u64 (M.nu x.1.2), .int .u64 (M.nu x.2.1), .int .u64 (M.nu x.2.2)] 26); have Ys2 := Xs1.below hb2; have cs2 := Ys2.cells; have ls2 := Ys2.lt; have Xs2 := Ys2.alloc (.cells #[.int .u64 (M.nu x.1.1), .int .u64 (M.nu x.1.2), .int .u64 (M.nu x.2.1), .int .u64 (M.nu x.2.2)] 26); have Xx2 := Bx4.new w2 x; have hY2 := below_trans hB1 hb2; have hB2 := below_one hY2 (o := (.cells #[.int .u64 (M.nu x.1.1), .int .u64 (M.nu x.1.2), .int .u64 (M.nu x.2.1), .int .u64 (M.nu x.2.2)] 26)); clear hb2) | (go_at_call 9; refine (unwrap_eq HV.out HN.out _).mono ?_; rintro r w3 ⟨rfl, hb3⟩; have Yk3 := Xk2.below hb3; have ck3 := Yk3.cells; have lk3 := Yk3.lt; have Xk3 := Yk3.alloc (.cells #[.int .u64 (M.nu a.1), .int .u64 (M.nu a.2)] 24); have Ya3 := Xa2.below hb3; have ca3 := Ya3.cells; have la3 := Ya3.lt; have Xa3 := Ya3.alloc (.cells #[.int .u64 (M.nu a.1), .int .u64 (M.nu a.2)] 24); have Yb3 := Xb2.below hb3; have cb3 := Yb3.cells; have lb3 := Yb3.lt; have Xb3 := Yb3.alloc (.cells #[.int .u64 (M.nu a.1), .int .u64 (M.nu a.2)] 24); have Ys3 := Xs2.below hb3; have cs3 := Ys3.cells; have ls3 := Ys3.lt; have Xs3 := Ys3.alloc (.cells #[.int .u64 (M.nu a.1), .int .u64 (M.nu a.2)] 24); have Yx3 := Xx2.below hb3; have cx3 := Yx3.cells; have lx3 := Yx3.lt; have Xx3 := Yx3.alloc (.cells #[.int .u64 (M.nu a.1), .int .u64 (M.nu a.2)] 24); have Xg3 := Bx2.new w3 a; have hY3 := below_trans hB2 hb3; have hB3 := below_one hY3 (o := (.cells #[.int .u64 (M.nu a.1), .int .u64 (M.nu a.2)] 24)); clear hb3))
    generalize w3.alloc (.cells #[.int .u64 (M.nu a.1), .int .u64 (M.nu a.2)] 24) = W at *
    generalize w2.heap.size = Gx at *
    generalize w3.heap.size = Gg at *
    obtain ⟨G, HG, hf, hf4, HO, HW0⟩ := class_of4 w W [(w.heap.size, k), (w.heap.size + 1, a), (w.heap.size + 1 + 1, b), (Gg, a)] [(Gx, x), (w.heap.size + 1 + 1 + 1, s)] (by simp; exact ⟨Xk3, Xa3, Xb3, Xg3⟩) (by simp; exact ⟨Xx3, Xs3⟩) hB3
    have h1 := fun s : Cls G => (hf s (w.heap.size, k) (by simp)).cells
    have h2 := fun s : Cls G => (hf s (w.heap.size + 1, a) (by simp)).cells
    have h3 := fun s : Cls G => (hf s (w.heap.size + 1 + 1, b) (by simp)).cells
    have h4 := fun s : Cls G => (hf s (Gg, a) (by simp)).cells
    have h5 := fun c : Cls G => (hf4 c (Gx, x) (by simp)).cells
    have h6 := fun c : Cls G => (hf4 c (w.heap.size + 1 + 1 + 1, s) (by simp)).cells
    have HF := hid' hf
    have HF4 := hid' hf4
    clear hf hf4 Xk3 Xa3 Xb3 Xg3 Xx3 Xs3 hB3
    have ne : Nonempty (Cls G) := ⟨⟨_, HW0.out⟩⟩
    refine region_cls (by kernel_rfl) (by kernel_rfl) HW0.out ?_
    repeat (go_big_quiet_step (first | (go_at_call 13; exact quiet_below HG.out _ (wrap_eq HY.out _))))
    refine wpQuiet_nil ?_
    rintro _ ⟨c1, rfl⟩
    have Xk4 := HF.out c1 (w.heap.size, k) (by simp)
    have Xs4 := HF4.out c1 (w.heap.size + 1 + 1 + 1, s) (by simp)
    have hB4 := HO.out c1
    clear HF HF4 HO HW0
    go_wp2_with (first | (go_at_call 9; refine (unwrap_eq HU.out HE.out _).mono ?_; rintro r w5 ⟨rfl, hb5⟩; have Yk5 := Xk4.below hb5; have ck5 := Yk5.cells; have lk5 := Yk5.lt; have Xk5 := Yk5.alloc (.cells #[.int .u64 (M.nu u.1), .int .u64 (M.nu u.2)] 24); have Ys5 := Xs4.below hb5; have cs5 := Ys5.cells; have ls5 := Ys5.lt; have Xs5 := Ys5.alloc (.cells #[.int .u64 (M.nu u.1), .int .u64 (M.nu u.2)] 24); have Xu5 := Bx2.new w5 u; have hY5 := below_trans hB4 hb5; have hB5 := below_one hY5 (o := (.cells #[.int .u64 (M.nu u.1), .int .u64 (M.nu u.2)] 24)); clear hb5))
    generalize w5.alloc (.cells #[.int .u64 (M.nu u.1), .int .u64 (M.nu u.2)] 24) = W5 at *
    generalize w5.heap.size = Gu at *
    obtain ⟨G', HG', hf', hf4', HO', HW0'⟩ := class_of4 w W5 [(w.heap.size, k), (Gu, u)] [(w.heap.size + 1 + 1 + 1, s)] (by simp; exact ⟨Xk5, Xu5⟩) (by simp; exact Xs5) hB5
    have h1' := fun s : Cls G' => (hf' s (w.heap.size, k) (by simp)).cells
    have h2' := fun s : Cls G' => (hf' s (Gu, u) (by simp)).cells
    have h3' := fun c : Cls G' => (hf4' c (w.heap.size + 1 + 1 + 1, s) (by simp)).cells
    have ne' : Nonempty (Cls G') := ⟨⟨_, HW0'.out⟩⟩
    clear hf' hf4' h1 h2 h3 h4 h5 h6 ne
    refine region_cls (by kernel_rfl) (by kernel_rfl) HW0'.out ?_
    repeat (go_big_quiet_step (first | (go_at_call 13; exact quiet_below HG'.out _ (wrap_eq HW.out _))))
    refine wpQuiet_nil ?_
    rintro _ ⟨c2, rfl⟩
    have hB := HO'.out c2
    go_wp2
    go_ret
    exact ⟨rfl, hB⟩
  · skip
    have HE : Hid (M.unE k s = 7) := if_neg hT
    obtain ⟨u, hu⟩ : ∃ u : M.Blk, (0#64, 0#64) = u := ⟨_, rfl⟩
    have HU : Hid (M.unV k s = u) := by rw [← hu]; exact if_neg hT
    have HZ : Hid (M.nu u.1 = 0 ∧ M.nu u.2 = 0) := by rw [← hu]; exact ⟨rfl, rfl⟩
    clear hu hT
    go_enter Try.func4, Try.ntmps4
    go_wp2_with (first | (go_at_call 8; refine (live4_any _).mono ?_; rintro r w1 ⟨rfl, hb1⟩; have Yk1 := Xk0.below hb1; have ck1 := Yk1.cells; have lk1 := Yk1.lt; have Xk1 := Yk1; have Ya1 := Xa0.below hb1; have ca1 := Ya1.cells; have la1 := Ya1.lt; have Xa1 := Ya1; have Yb1 := Xb0.below hb1; have cb1 := Yb1.cells; have lb1 := Yb1.lt; have Xb1 := Yb1; have Ys1 := Xs0.below hb1; have cs1 := Ys1.cells; have ls1 := Ys1.lt; have Xs1 := Ys1; have hB1 := below_trans hB0 hb1; clear hb1) | (go_at_call 13; refine (wrap_eq HX.out _).mono ?_; rintro r w2 ⟨rfl, hb2⟩; have Yk2 := Xk1.below hb2; have ck2 := Yk2.cells; have lk2 := Yk2.lt; have Xk2 := Yk2.alloc (.cells #[.int .u64 (M.nu x.1.1), .int .u64 (M.nu x.1.2), .int .u64 (M.nu x.2.1), .int .u64 (M.nu x.2.2)] 26); have Ya2 := Xa1.below hb2; have ca2 := Ya2.cells; have la2 := Ya2.lt; have Xa2 := Ya2.alloc (.cells #[.int .u64 (M.nu x.1.1), .int .u64 (M.nu x.1.2), .int .u64 (M.nu x.2.1), .int .u64 (M.nu x.2.2)] 26); have Yb2 := Xb1.below hb2; have cb2 := Yb2.cells; have lb2 := Yb2.lt; have Xb2 := Yb2.alloc (.cells #[.int .u64 (M.nu x.1.1), .int .u64 (M.nu x.1.2), .int .u64 (M.nu x.2.1), .int .u64 (M.nu x.2.2)] 26); have Ys2 := Xs1.below hb2; have cs2 := Ys2.cells; have ls2 := Ys2.lt; have Xs2 := Ys2.alloc (.cells #[.int .u64 (M.nu x.1.1), .int .u64 (M.nu x.1.2), .int .u64 (M.nu x.2.1), .int .u64 (M.nu x.2.2)] 26); have Xx2 := Bx4.new w2 x; have hY2 := below_trans hB1 hb2; have hB2 := below_one hY2 (o := (.cells #[.int .u64 (M.nu x.1.1), .int .u64 (M.nu x.1.2), .int .u64 (M.nu x.2.1), .int .u64 (M.nu x.2.2)] 26)); clear hb2) | (go_at_call 9; refine (unwrap_eq HV.out HN.out _).mono ?_; rintro r w3 ⟨rfl, hb3⟩; have Yk3 := Xk2.below hb3; have ck3 := Yk3.cells; have lk3 := Yk3.lt; have Xk3 := Yk3.alloc (.cells #[.int .u64 (M.nu a.1), .int .u64 (M.nu a.2)] 24); have Ya3 := Xa2.below hb3; have ca3 := Ya3.cells; have la3 := Ya3.lt; have Xa3 := Ya3.alloc (.cells #[.int .u64 (M.nu a.1), .int .u64 (M.nu a.2)] 24); have Yb3 := Xb2.below hb3; have cb3 := Yb3.cells; have lb3 := Yb3.lt; have Xb3 := Yb3.alloc (.cells #[.int .u64 (M.nu a.1), .int .u64 (M.nu a.2)] 24); have Ys3 := Xs2.below hb3; have cs3 := Ys3.cells; have ls3 := Ys3.lt; have Xs3 := Ys3.alloc (.cells #[.int .u64 (M.nu a.1), .int .u64 (M.nu a.2)] 24); have Yx3 := Xx2.below hb3; have cx3 := Yx3.cells; have lx3 := Yx3.lt; have Xx3 := Yx3.alloc (.cells #[.int .u64 (M.nu a.1), .int .u64 (M.nu a.2)] 24); have Xg3 := Bx2.new w3 a; have hY3 := below_trans hB2 hb3; have hB3 := below_one hY3 (o := (.cells #[.int .u64 (M.nu a.1), .int .u64 (M.nu a.2)] 24)); clear hb3))
    generalize w3.alloc (.cells #[.int .u64 (M.nu a.1), .int .u64 (M.nu a.2)] 24) = W at *
    generalize w2.heap.size = Gx at *
    generalize w3.heap.size = Gg at *
    obtain ⟨G, HG, hf, hf4, HO, HW0⟩ := class_of4 w W [(w.heap.size, k), (w.heap.size + 1, a), (w.heap.size + 1 + 1, b), (Gg, a)] [(Gx, x), (w.heap.size + 1 + 1 + 1, s)] (by simp; exact ⟨Xk3, Xa3, Xb3, Xg3⟩) (by simp; exact ⟨Xx3, Xs3⟩) hB3
    have h1 := fun s : Cls G => (hf s (w.heap.size, k) (by simp)).cells
    have h2 := fun s : Cls G => (hf s (w.heap.size + 1, a) (by simp)).cells
    have h3 := fun s : Cls G => (hf s (w.heap.size + 1 + 1, b) (by simp)).cells
    have h4 := fun s : Cls G => (hf s (Gg, a) (by simp)).cells
    have h5 := fun c : Cls G => (hf4 c (Gx, x) (by simp)).cells
    have h6 := fun c : Cls G => (hf4 c (w.heap.size + 1 + 1 + 1, s) (by simp)).cells
    have HF := hid' hf
    have HF4 := hid' hf4
    clear hf hf4 Xk3 Xa3 Xb3 Xg3 Xx3 Xs3 hB3
    have ne : Nonempty (Cls G) := ⟨⟨_, HW0.out⟩⟩
    refine region_cls (by kernel_rfl) (by kernel_rfl) HW0.out ?_
    repeat (go_big_quiet_step (first | (go_at_call 13; exact quiet_below HG.out _ (wrap_eq HY.out _))))
    refine wpQuiet_nil ?_
    rintro _ ⟨c1, rfl⟩
    have Xk4 := HF.out c1 (w.heap.size, k) (by simp)
    have Xs4 := HF4.out c1 (w.heap.size + 1 + 1 + 1, s) (by simp)
    have hB4 := HO.out c1
    clear HF HF4 HO HW0
    go_wp2_with (first | (go_at_call 9; refine (unwrap_eq HU.out HE.out _).mono ?_; rintro r w5 ⟨rfl, hb5⟩; have Yk5 := Xk4.below hb5; have ck5 := Yk5.cells; have lk5 := Yk5.lt; have Xk5 := Yk5.alloc (.cells #[.int .u64 (M.nu u.1), .int .u64 (M.nu u.2)] 24); have Ys5 := Xs4.below hb5; have cs5 := Ys5.cells; have ls5 := Ys5.lt; have Xs5 := Ys5.alloc (.cells #[.int .u64 (M.nu u.1), .int .u64 (M.nu u.2)] 24); have Xu5 := Bx2.new w5 u; have hY5 := below_trans hB4 hb5; have hB5 := below_one hY5 (o := (.cells #[.int .u64 (M.nu u.1), .int .u64 (M.nu u.2)] 24)); clear hb5))
    obtain ⟨g1, g2⟩ := HZ.out
    go_wp2
    go_ret
    exact ⟨by simp [g1, g2], hB5⟩
end Go.Proofs.Ytfedmkklpambgaa
