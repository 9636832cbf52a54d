/-
  The law SealTag: of what is wrapped no other tag will do; two with one key, exclusive or, hide what both are, exclusive or. No condition.
-/
import Derived.Test.YtfedmkklpambgaaC7
namespace Go.Proofs.Ytfedmkklpambgaa
open Go.RowKit
set_option maxRecDepth 100000 in
set_option maxHeartbeats 4000000 in
theorem sealTag_walk (k a b o : M.Blk) (w : World) :
    Calls Try.prog 5 #[blkV k, blkV a, blkV b, blkV o] w fun e w' => e = .returned (.bool true) ∧ Below w.heap.size w w' := by
  have hq := eqB
  obtain ⟨Xk0, Xa0, Xb0, Xo0, hB0⟩ : Bx2 ((((w.alloc (.cells #[.int .u64 (M.nu k.1), .int .u64 (M.nu k.2)] 24)).alloc (.cells #[.int .u64 (M.nu a.1), .int .u64 (M.nu a.2)] 24)).alloc (.cells #[.int .u64 (M.nu b.1), .int .u64 (M.nu b.2)] 24)).alloc (.cells #[.int .u64 (M.nu o.1), .int .u64 (M.nu o.2)] 24)) w.heap.size k ∧ Bx2 ((((w.alloc (.cells #[.int .u64 (M.nu k.1), .int .u64 (M.nu k.2)] 24)).alloc (.cells #[.int .u64 (M.nu a.1), .int .u64 (M.nu a.2)] 24)).alloc (.cells #[.int .u64 (M.nu b.1), .int .u64 (M.nu b.2)] 24)).alloc (.cells #[.int .u64 (M.nu o.1), .int .u64 (M.nu o.2)] 24)) (w.heap.size + 1) a ∧ Bx2 ((((w.alloc (.cells #[.int .u64 (M.nu k.1), .int .u64 (M.nu k.2)] 24)).alloc (.cells #[.int .u64 (M.nu a.1), .int .u64 (M.nu a.2)] 24)).alloc (.cells #[.int .u64 (M.nu b.1), .int .u64 (M.nu b.2)] 24)).alloc (.cells #[.int .u64 (M.nu o.1), .int .u64 (M.nu o.2)] 24)) (w.heap.size + 1 + 1) b ∧ Bx2 ((((w.alloc (.cells #[.int .u64 (M.nu k.1), .int .u64 (M.nu k.2)] 24)).alloc (.cells #[.int .u64 (M.nu a.1), .int .u64 (M.nu a.2)] 24)).alloc (.cells #[.int .u64 (M.nu b.1), .int .u64 (M.nu b.2)] 24)).alloc (.cells #[.int .u64 (M.nu o.1), .int .u64 (M.nu o.2)] 24)) (w.heap.size + 1 + 1 + 1) o ∧ Below w.heap.size w ((((w.alloc (.cells #[.int .u64 (M.nu k.1), .int .u64 (M.nu k.2)] 24)).alloc (.cells #[.int .u64 (M.nu a.1), .int .u64 (M.nu a.2)] 24)).alloc (.cells #[.int .u64 (M.nu b.1), .int .u64 (M.nu b.2)] 24)).alloc (.cells #[.int .u64 (M.nu o.1), .int .u64 (M.nu o.2)] 24)) := by
    refine ⟨?_, ?_, ?_, ?_, below_one (below_one (below_one (below_one (Below.refl _ _))))⟩
    · have := Bx2.alloc (Bx2.alloc (Bx2.alloc (Bx2.new w k) (.cells #[.int .u64 (M.nu a.1), .int .u64 (M.nu a.2)] 24)) (.cells #[.int .u64 (M.nu b.1), .int .u64 (M.nu b.2)] 24)) (.cells #[.int .u64 (M.nu o.1), .int .u64 (M.nu o.2)] 24)
      exact this
    · have := Bx2.alloc (Bx2.alloc (Bx2.new (w.alloc (.cells #[.int .u64 (M.nu k.1), .int .u64 (M.nu k.2)] 24)) a) (.cells #[.int .u64 (M.nu b.1), .int .u64 (M.nu b.2)] 24)) (.cells #[.int .u64 (M.nu o.1), .int .u64 (M.nu o.2)] 24)
      rw [World.size_alloc] at this; exact this
    · have := Bx2.alloc (Bx2.new ((w.alloc (.cells #[.int .u64 (M.nu k.1), .int .u64 (M.nu k.2)] 24)).alloc (.cells #[.int .u64 (M.nu a.1), .int .u64 (M.nu a.2)] 24)) b) (.cells #[.int .u64 (M.nu o.1), .int .u64 (M.nu o.2)] 24)
      rw [World.size_alloc, World.size_alloc] at this; exact this
    · have := Bx2.new (((w.alloc (.cells #[.int .u64 (M.nu k.1), .int .u64 (M.nu k.2)] 24)).alloc (.cells #[.int .u64 (M.nu a.1), .int .u64 (M.nu a.2)] 24)).alloc (.cells #[.int .u64 (M.nu b.1), .int .u64 (M.nu b.2)] 24)) o
      rw [World.size_alloc, World.size_alloc, World.size_alloc] at this; exact this
  obtain ⟨x, hx⟩ : ∃ x, M.wrap k a = x := ⟨_, rfl⟩
  obtain ⟨y, hy⟩ : ∃ y, M.wrap k b = y := ⟨_, rfl⟩
  obtain ⟨z, hz⟩ : ∃ z, M.xor a b = z := ⟨_, rfl⟩
  have hS2 : M.tag k x.1 = x.2 := by rw [← hx]; rfl
  have HT := hid' hS2
  have HX1 : Hid (M.xor x.1 y.1 = z) := by rw [← hx, ← hy, ← hz]; exact M.xor_masks k a b
  have HX2 := hid' hz
  have HX := hid' hx
  have HY := hid' hy
  clear hx hy hz
  unfold blkV
  by_cases hT : M.tag k x.1 = o
  · skip
    have HE : Hid (M.unE k (x.1, o) = 0) := if_pos hT
    obtain ⟨u, hu⟩ : ∃ u, M.unV k (x.1, o) = u := ⟨_, rfl⟩
    have HU := hid' hu
    have ho : (M.nu o.1 == M.nu x.2.1 && M.nu o.2 == M.nu x.2.2) = true := by rw [blk_beq, ← hS2, ← hT]; simp
    clear hu hT
    clear hS2
    have T2 := hid' trivial
    go_enter Try.func5, Try.ntmps5
    go_wp2_with (first | (go_at_call 8; refine (live4_any _).mono ?_; rintro r w1 ⟨rfl, hb1⟩; have Yk1 := Xk0.below hb1; have ck1 := Yk1.cells; have lk1 := Yk1.lt; have Xk1 := Yk1; have Ya1 := Xa0.below hb1; have ca1 := Ya1.cells; have la1 := Ya1.lt; have Xa1 := Ya1; have Yb1 := Xb0.below hb1; have cb1 := Yb1.cells; have lb1 := Yb1.lt; have Xb1 := Yb1; have Yo1 := Xo0.below hb1; have co1 := Yo1.cells; have lo1 := Yo1.lt; have Xo1 := Yo1; have hB1 := below_trans hB0 hb1; clear hb1) | (go_at_call 13; clear T2; refine (wrap_eq HX.out _).mono ?_; rintro r w2 ⟨rfl, hb2⟩; have Yk2 := Xk1.below hb2; have ck2 := Yk2.cells; have lk2 := Yk2.lt; have Xk2 := Yk2.alloc (.cells #[.int .u64 (M.nu x.1.1), .int .u64 (M.nu x.1.2), .int .u64 (M.nu x.2.1), .int .u64 (M.nu x.2.2)] 26); have Ya2 := Xa1.below hb2; have ca2 := Ya2.cells; have la2 := Ya2.lt; have Xa2 := Ya2.alloc (.cells #[.int .u64 (M.nu x.1.1), .int .u64 (M.nu x.1.2), .int .u64 (M.nu x.2.1), .int .u64 (M.nu x.2.2)] 26); have Yb2 := Xb1.below hb2; have cb2 := Yb2.cells; have lb2 := Yb2.lt; have Xb2 := Yb2.alloc (.cells #[.int .u64 (M.nu x.1.1), .int .u64 (M.nu x.1.2), .int .u64 (M.nu x.2.1), .int .u64 (M.nu x.2.2)] 26); have Yo2 := Xo1.below hb2; have co2 := Yo2.cells; have lo2 := Yo2.lt; have Xo2 := Yo2.alloc (.cells #[.int .u64 (M.nu x.1.1), .int .u64 (M.nu x.1.2), .int .u64 (M.nu x.2.1), .int .u64 (M.nu x.2.2)] 26); have Xx2 := Bx4.new w2 x; have hY2 := below_trans hB1 hb2; have hB2 := below_one hY2 (o := (.cells #[.int .u64 (M.nu x.1.1), .int .u64 (M.nu x.1.2), .int .u64 (M.nu x.2.1), .int .u64 (M.nu x.2.2)] 26)); clear hb2) | (go_at_call 13; refine (wrap_eq HY.out _).mono ?_; rintro r w3 ⟨rfl, hb3⟩; have Yk3 := Xk2.below hb3; have ck3 := Yk3.cells; have lk3 := Yk3.lt; have Xk3 := Yk3.alloc (.cells #[.int .u64 (M.nu y.1.1), .int .u64 (M.nu y.1.2), .int .u64 (M.nu y.2.1), .int .u64 (M.nu y.2.2)] 26); have Ya3 := Xa2.below hb3; have ca3 := Ya3.cells; have la3 := Ya3.lt; have Xa3 := Ya3.alloc (.cells #[.int .u64 (M.nu y.1.1), .int .u64 (M.nu y.1.2), .int .u64 (M.nu y.2.1), .int .u64 (M.nu y.2.2)] 26); have Yb3 := Xb2.below hb3; have cb3 := Yb3.cells; have lb3 := Yb3.lt; have Xb3 := Yb3.alloc (.cells #[.int .u64 (M.nu y.1.1), .int .u64 (M.nu y.1.2), .int .u64 (M.nu y.2.1), .int .u64 (M.nu y.2.2)] 26); have Yo3 := Xo2.below hb3; have co3 := Yo3.cells; have lo3 := Yo3.lt; have Xo3 := Yo3.alloc (.cells #[.int .u64 (M.nu y.1.1), .int .u64 (M.nu y.1.2), .int .u64 (M.nu y.2.1), .int .u64 (M.nu y.2.2)] 26); have Yx3 := Xx2.below hb3; have cx3 := Yx3.cells; have lx3 := Yx3.lt; have Xx3 := Yx3.alloc (.cells #[.int .u64 (M.nu y.1.1), .int .u64 (M.nu y.1.2), .int .u64 (M.nu y.2.1), .int .u64 (M.nu y.2.2)] 26); have Xy3 := Bx4.new w3 y; have hY3 := below_trans hB2 hb3; have hB3 := below_one hY3 (o := (.cells #[.int .u64 (M.nu y.1.1), .int .u64 (M.nu y.1.2), .int .u64 (M.nu y.2.1), .int .u64 (M.nu y.2.2)] 26)); clear hb3))
    generalize w3.alloc (.cells #[.int .u64 (M.nu y.1.1), .int .u64 (M.nu y.1.2), .int .u64 (M.nu y.2.1), .int .u64 (M.nu y.2.2)] 26) = W at *
    generalize w2.heap.size = Gx at *
    generalize w3.heap.size = Gy at *
    obtain ⟨G, HG, hf, hf4, HO, HW0⟩ := class_of4 w W [(w.heap.size, k), (w.heap.size + 1, a), (w.heap.size + 1 + 1, b), (w.heap.size + 1 + 1 + 1, o)] [(Gx, x), (Gy, y)] (by simp; exact ⟨Xk3, Xa3, Xb3, Xo3⟩) (by simp; exact ⟨Xx3, Xy3⟩) hB3
    have h1 := fun s : Cls G => (hf s (w.heap.size, k) (by simp)).cells
    have h2 := fun s : Cls G => (hf s (w.heap.size + 1, a) (by simp)).cells
    have h3 := fun s : Cls G => (hf s (w.heap.size + 1 + 1, b) (by simp)).cells
    have h4 := fun s : Cls G => (hf s (w.heap.size + 1 + 1 + 1, o) (by simp)).cells
    have h5 := fun c : Cls G => (hf4 c (Gx, x) (by simp)).cells
    have h6 := fun c : Cls G => (hf4 c (Gy, y) (by simp)).cells
    have HF := hid' hf
    have HF4 := hid' hf4
    clear hf hf4 Xk3 Xa3 Xb3 Xo3 Xx3 Xy3 hB3
    have ne : Nonempty (Cls G) := ⟨⟨_, HW0.out⟩⟩
    refine region_cls (by kernel_rfl) (by kernel_rfl) HW0.out ?_
    repeat (go_big_quiet_step (first | (go_at_call 15; exact quiet_below HG.out _ (tag_eq HT.out _)) | (go_at_call_of 19 (M.nu x.1.1); exact quiet_below HG.out _ (xor_eq HX1.out _)) | (go_at_call_of 19 (M.nu a.1); exact quiet_below HG.out _ (xor_eq HX2.out _))))
    refine wpQuiet_nil ?_
    rintro _ ⟨c1, rfl⟩
    have Xk4 := HF.out c1 (w.heap.size, k) (by simp)
    have Xo4 := HF.out c1 (w.heap.size + 1 + 1 + 1, o) (by simp)
    have Xx4 := HF4.out c1 (Gx, x) (by simp)
    have hB4 := HO.out c1
    clear HF HF4 HO HW0
    go_wp2_with (first | (go_at_call 9; refine (unwrap_eq (s := (x.1, o)) HU.out HE.out _).mono ?_; rintro r w5 ⟨rfl, hb5⟩; have Yk5 := Xk4.below hb5; have ck5 := Yk5.cells; have lk5 := Yk5.lt; have Xk5 := Yk5.alloc (.cells #[.int .u64 (M.nu u.1), .int .u64 (M.nu u.2)] 24); have Yo5 := Xo4.below hb5; have co5 := Yo5.cells; have lo5 := Yo5.lt; have Xo5 := Yo5.alloc (.cells #[.int .u64 (M.nu u.1), .int .u64 (M.nu u.2)] 24); have Yx5 := Xx4.below hb5; have cx5 := Yx5.cells; have lx5 := Yx5.lt; have Xx5 := Yx5.alloc (.cells #[.int .u64 (M.nu u.1), .int .u64 (M.nu u.2)] 24); have Xu5 := Bx2.new w5 u; have hY5 := below_trans hB4 hb5; have hB5 := below_one hY5 (o := (.cells #[.int .u64 (M.nu u.1), .int .u64 (M.nu u.2)] 24)); clear hb5))
    go_ret
    exact ⟨by first | rfl | simp, hB5⟩
  · skip
    have HE : Hid (M.unE k (x.1, o) = 7) := if_neg hT
    obtain ⟨u, hu⟩ : ∃ u : M.Blk, (0#64, 0#64) = u := ⟨_, rfl⟩
    have HU : Hid (M.unV k (x.1, o) = u) := by rw [← hu]; exact if_neg hT
    have ho : (M.nu o.1 == M.nu x.2.1 && M.nu o.2 == M.nu x.2.2) = false := by rw [blk_beq, ← hS2]; simpa using fun h => hT (Eq.symm h)
    clear hu hT
    clear hS2
    have T2 := hid' trivial
    go_enter Try.func5, Try.ntmps5
    go_wp2_with (first | (go_at_call 8; refine (live4_any _).mono ?_; rintro r w1 ⟨rfl, hb1⟩; have Yk1 := Xk0.below hb1; have ck1 := Yk1.cells; have lk1 := Yk1.lt; have Xk1 := Yk1; have Ya1 := Xa0.below hb1; have ca1 := Ya1.cells; have la1 := Ya1.lt; have Xa1 := Ya1; have Yb1 := Xb0.below hb1; have cb1 := Yb1.cells; have lb1 := Yb1.lt; have Xb1 := Yb1; have Yo1 := Xo0.below hb1; have co1 := Yo1.cells; have lo1 := Yo1.lt; have Xo1 := Yo1; have hB1 := below_trans hB0 hb1; clear hb1) | (go_at_call 13; clear T2; refine (wrap_eq HX.out _).mono ?_; rintro r w2 ⟨rfl, hb2⟩; have Yk2 := Xk1.below hb2; have ck2 := Yk2.cells; have lk2 := Yk2.lt; have Xk2 := Yk2.alloc (.cells #[.int .u64 (M.nu x.1.1), .int .u64 (M.nu x.1.2), .int .u64 (M.nu x.2.1), .int .u64 (M.nu x.2.2)] 26); have Ya2 := Xa1.below hb2; have ca2 := Ya2.cells; have la2 := Ya2.lt; have Xa2 := Ya2.alloc (.cells #[.int .u64 (M.nu x.1.1), .int .u64 (M.nu x.1.2), .int .u64 (M.nu x.2.1), .int .u64 (M.nu x.2.2)] 26); have Yb2 := Xb1.below hb2; have cb2 := Yb2.cells; have lb2 := Yb2.lt; have Xb2 := Yb2.alloc (.cells #[.int .u64 (M.nu x.1.1), .int .u64 (M.nu x.1.2), .int .u64 (M.nu x.2.1), .int .u64 (M.nu x.2.2)] 26); have Yo2 := Xo1.below hb2; have co2 := Yo2.cells; have lo2 := Yo2.lt; have Xo2 := Yo2.alloc (.cells #[.int .u64 (M.nu x.1.1), .int .u64 (M.nu x.1.2), .int .u64 (M.nu x.2.1), .int .u64 (M.nu x.2.2)] 26); have Xx2 := Bx4.new w2 x; have hY2 := below_trans hB1 hb2; have hB2 := below_one hY2 (o := (.cells #[.int .u64 (M.nu x.1.1), .int .u64 (M.nu x.1.2), .int .u64 (M.nu x.2.1), .int .u64 (M.nu x.2.2)] 26)); clear hb2) | (go_at_call 13; refine (wrap_eq HY.out _).mono ?_; rintro r w3 ⟨rfl, hb3⟩; have Yk3 := Xk2.below hb3; have ck3 := Yk3.cells; have lk3 := Yk3.lt; have Xk3 := Yk3.alloc (.cells #[.int .u64 (M.nu y.1.1), .int .u64 (M.nu y.1.2), .int .u64 (M.nu y.2.1), .int .u64 (M.nu y.2.2)] 26); have Ya3 := Xa2.below hb3; have ca3 := Ya3.cells; have la3 := Ya3.lt; have Xa3 := Ya3.alloc (.cells #[.int .u64 (M.nu y.1.1), .int .u64 (M.nu y.1.2), .int .u64 (M.nu y.2.1), .int .u64 (M.nu y.2.2)] 26); have Yb3 := Xb2.below hb3; have cb3 := Yb3.cells; have lb3 := Yb3.lt; have Xb3 := Yb3.alloc (.cells #[.int .u64 (M.nu y.1.1), .int .u64 (M.nu y.1.2), .int .u64 (M.nu y.2.1), .int .u64 (M.nu y.2.2)] 26); have Yo3 := Xo2.below hb3; have co3 := Yo3.cells; have lo3 := Yo3.lt; have Xo3 := Yo3.alloc (.cells #[.int .u64 (M.nu y.1.1), .int .u64 (M.nu y.1.2), .int .u64 (M.nu y.2.1), .int .u64 (M.nu y.2.2)] 26); have Yx3 := Xx2.below hb3; have cx3 := Yx3.cells; have lx3 := Yx3.lt; have Xx3 := Yx3.alloc (.cells #[.int .u64 (M.nu y.1.1), .int .u64 (M.nu y.1.2), .int .u64 (M.nu y.2.1), .int .u64 (M.nu y.2.2)] 26); have Xy3 := Bx4.new w3 y; have hY3 := below_trans hB2 hb3; have hB3 := below_one hY3 (o := (.cells #[.int .u64 (M.nu y.1.1), .int .u64 (M.nu y.1.2), .int .u64 (M.nu y.2.1), .int .u64 (M.nu y.2.2)] 26)); clear hb3))
    generalize w3.alloc (.cells #[.int .u64 (M.nu y.1.1), .int .u64 (M.nu y.1.2), .int .u64 (M.nu y.2.1), .int .u64 (M.nu y.2.2)] 26) = W at *
    generalize w2.heap.size = Gx at *
    generalize w3.heap.size = Gy at *
    obtain ⟨G, HG, hf, hf4, HO, HW0⟩ := class_of4 w W [(w.heap.size, k), (w.heap.size + 1, a), (w.heap.size + 1 + 1, b), (w.heap.size + 1 + 1 + 1, o)] [(Gx, x), (Gy, y)] (by simp; exact ⟨Xk3, Xa3, Xb3, Xo3⟩) (by simp; exact ⟨Xx3, Xy3⟩) hB3
    have h1 := fun s : Cls G => (hf s (w.heap.size, k) (by simp)).cells
    have h2 := fun s : Cls G => (hf s (w.heap.size + 1, a) (by simp)).cells
    have h3 := fun s : Cls G => (hf s (w.heap.size + 1 + 1, b) (by simp)).cells
    have h4 := fun s : Cls G => (hf s (w.heap.size + 1 + 1 + 1, o) (by simp)).cells
    have h5 := fun c : Cls G => (hf4 c (Gx, x) (by simp)).cells
    have h6 := fun c : Cls G => (hf4 c (Gy, y) (by simp)).cells
    have HF := hid' hf
    have HF4 := hid' hf4
    clear hf hf4 Xk3 Xa3 Xb3 Xo3 Xx3 Xy3 hB3
    have ne : Nonempty (Cls G) := ⟨⟨_, HW0.out⟩⟩
    refine region_cls (by kernel_rfl) (by kernel_rfl) HW0.out ?_
    repeat (go_big_quiet_step (first | (go_at_call 15; exact quiet_below HG.out _ (tag_eq HT.out _)) | (go_at_call_of 19 (M.nu x.1.1); exact quiet_below HG.out _ (xor_eq HX1.out _)) | (go_at_call_of 19 (M.nu a.1); exact quiet_below HG.out _ (xor_eq HX2.out _))))
    refine wpQuiet_nil ?_
    rintro _ ⟨c1, rfl⟩
    have Xk4 := HF.out c1 (w.heap.size, k) (by simp)
    have Xo4 := HF.out c1 (w.heap.size + 1 + 1 + 1, o) (by simp)
    have Xx4 := HF4.out c1 (Gx, x) (by simp)
    have hB4 := HO.out c1
    clear HF HF4 HO HW0
    go_wp2_with (first | (go_at_call 9; refine (unwrap_eq (s := (x.1, o)) HU.out HE.out _).mono ?_; rintro r w5 ⟨rfl, hb5⟩; have Yk5 := Xk4.below hb5; have ck5 := Yk5.cells; have lk5 := Yk5.lt; have Xk5 := Yk5.alloc (.cells #[.int .u64 (M.nu u.1), .int .u64 (M.nu u.2)] 24); have Yo5 := Xo4.below hb5; have co5 := Yo5.cells; have lo5 := Yo5.lt; have Xo5 := Yo5.alloc (.cells #[.int .u64 (M.nu u.1), .int .u64 (M.nu u.2)] 24); have Yx5 := Xx4.below hb5; have cx5 := Yx5.cells; have lx5 := Yx5.lt; have Xx5 := Yx5.alloc (.cells #[.int .u64 (M.nu u.1), .int .u64 (M.nu u.2)] 24); have Xu5 := Bx2.new w5 u; have hY5 := below_trans hB4 hb5; have hB5 := below_one hY5 (o := (.cells #[.int .u64 (M.nu u.1), .int .u64 (M.nu u.2)] 24)); clear hb5))
    go_ret
    exact ⟨by first | rfl | simp, hB5⟩
end Go.Proofs.Ytfedmkklpambgaa
