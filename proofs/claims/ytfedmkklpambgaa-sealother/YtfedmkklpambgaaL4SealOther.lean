/-
  The law SealOther: what is taken out with a key is what was wrapped with it; two keys that both take something out are told by their tags. No condition.
-/
import Derived.Test.YtfedmkklpambgaaC7
namespace Go.Proofs.Ytfedmkklpambgaa
open Go.RowKit
set_option maxRecDepth 100000 in
set_option maxHeartbeats 4000000 in
theorem sealOther_walk (k o b : M.Blk) (w : World) :
    Calls Try.prog 7 #[blkV k, blkV o, blkV b] w fun e w' => e = .returned (.bool true) ∧ Below w.heap.size w w' := by
  have hq := eqB
  have hq4 := eqS
  obtain ⟨Xk0, Xo0, Xb0, hB0⟩ : Bx2 (((w.alloc (.cells #[.int .u64 (M.nu k.1), .int .u64 (M.nu k.2)] 24)).alloc (.cells #[.int .u64 (M.nu o.1), .int .u64 (M.nu o.2)] 24)).alloc (.cells #[.int .u64 (M.nu b.1), .int .u64 (M.nu b.2)] 24)) w.heap.size k ∧ Bx2 (((w.alloc (.cells #[.int .u64 (M.nu k.1), .int .u64 (M.nu k.2)] 24)).alloc (.cells #[.int .u64 (M.nu o.1), .int .u64 (M.nu o.2)] 24)).alloc (.cells #[.int .u64 (M.nu b.1), .int .u64 (M.nu b.2)] 24)) (w.heap.size + 1) o ∧ Bx2 (((w.alloc (.cells #[.int .u64 (M.nu k.1), .int .u64 (M.nu k.2)] 24)).alloc (.cells #[.int .u64 (M.nu o.1), .int .u64 (M.nu o.2)] 24)).alloc (.cells #[.int .u64 (M.nu b.1), .int .u64 (M.nu b.2)] 24)) (w.heap.size + 1 + 1) b ∧ Below w.heap.size w (((w.alloc (.cells #[.int .u64 (M.nu k.1), .int .u64 (M.nu k.2)] 24)).alloc (.cells #[.int .u64 (M.nu o.1), .int .u64 (M.nu o.2)] 24)).alloc (.cells #[.int .u64 (M.nu b.1), .int .u64 (M.nu b.2)] 24)) := by
    refine ⟨?_, ?_, ?_, below_one (below_one (below_one (Below.refl _ _)))⟩
    · have := Bx2.alloc (Bx2.alloc (Bx2.new w k) (.cells #[.int .u64 (M.nu o.1), .int .u64 (M.nu o.2)] 24)) (.cells #[.int .u64 (M.nu b.1), .int .u64 (M.nu b.2)] 24)
      exact this
    · have := Bx2.alloc (Bx2.new (w.alloc (.cells #[.int .u64 (M.nu k.1), .int .u64 (M.nu k.2)] 24)) o) (.cells #[.int .u64 (M.nu b.1), .int .u64 (M.nu b.2)] 24)
      rw [World.size_alloc] at this; exact this
    · have := Bx2.new ((w.alloc (.cells #[.int .u64 (M.nu k.1), .int .u64 (M.nu k.2)] 24)).alloc (.cells #[.int .u64 (M.nu o.1), .int .u64 (M.nu o.2)] 24)) b
      rw [World.size_alloc, World.size_alloc] at this; exact this
  obtain ⟨s, hs⟩ : ∃ s, M.wrap k b = s := ⟨_, rfl⟩
  have hS2 : M.tag k s.1 = s.2 := by rw [← hs]; rfl
  have HS := hid' hs
  clear hs
  unfold blkV
  by_cases hT : M.tag o s.1 = s.2
  · skip
    have HN : Hid (M.unE o s = 0) := if_pos hT
    obtain ⟨g, hg⟩ : ∃ g, M.unV o s = g := ⟨_, rfl⟩
    have HW : Hid (M.wrap o g = s) := by rw [← hg]; exact M.wrap_unV o s hT
    have HV := hid' hg
    clear hg
    obtain ⟨t, ht⟩ : ∃ t, M.tag o s.1 = t := ⟨_, rfl⟩
    have HT := hid' ht
    have HU : Hid (M.tag k s.1 = s.2) := hid' hS2
    have ht2 : t = s.2 := by rw [← ht]; exact hT
    clear ht hT hS2
    subst ht2
    go_enter Try.func7, Try.ntmps7
    go_wp2_with (first | (go_at_call 8; refine (live4_any _).mono ?_; rintro r w1 ⟨rfl, hb1⟩; have Yk1 := Xk0.below hb1; have ck1 := Yk1.cells; have lk1 := Yk1.lt; have Xk1 := Yk1; have Yo1 := Xo0.below hb1; have co1 := Yo1.cells; have lo1 := Yo1.lt; have Xo1 := Yo1; have Yb1 := Xb0.below hb1; have cb1 := Yb1.cells; have lb1 := Yb1.lt; have Xb1 := Yb1; have hB1 := below_trans hB0 hb1; clear hb1) | (go_at_call 13; refine (wrap_eq HS.out _).mono ?_; rintro r w2 ⟨rfl, hb2⟩; have Yk2 := Xk1.below hb2; have ck2 := Yk2.cells; have lk2 := Yk2.lt; have Xk2 := Yk2.alloc (.cells #[.int .u64 (M.nu s.1.1), .int .u64 (M.nu s.1.2), .int .u64 (M.nu s.2.1), .int .u64 (M.nu s.2.2)] 26); have Yo2 := Xo1.below hb2; have co2 := Yo2.cells; have lo2 := Yo2.lt; have Xo2 := Yo2.alloc (.cells #[.int .u64 (M.nu s.1.1), .int .u64 (M.nu s.1.2), .int .u64 (M.nu s.2.1), .int .u64 (M.nu s.2.2)] 26); have Yb2 := Xb1.below hb2; have cb2 := Yb2.cells; have lb2 := Yb2.lt; have Xb2 := Yb2.alloc (.cells #[.int .u64 (M.nu s.1.1), .int .u64 (M.nu s.1.2), .int .u64 (M.nu s.2.1), .int .u64 (M.nu s.2.2)] 26); have Xs2 := Bx4.new w2 s; have hY2 := below_trans hB1 hb2; have hB2 := below_one hY2 (o := (.cells #[.int .u64 (M.nu s.1.1), .int .u64 (M.nu s.1.2), .int .u64 (M.nu s.2.1), .int .u64 (M.nu s.2.2)] 26)); clear hb2) | (go_at_call 9; refine (unwrap_eq HV.out HN.out _).mono ?_; rintro r w3 ⟨rfl, hb3⟩; have Yk3 := Xk2.below hb3; have ck3 := Yk3.cells; have lk3 := Yk3.lt; have Xk3 := Yk3.alloc (.cells #[.int .u64 (M.nu g.1), .int .u64 (M.nu g.2)] 24); have Yo3 := Xo2.below hb3; have co3 := Yo3.cells; have lo3 := Yo3.lt; have Xo3 := Yo3.alloc (.cells #[.int .u64 (M.nu g.1), .int .u64 (M.nu g.2)] 24); have Yb3 := Xb2.below hb3; have cb3 := Yb3.cells; have lb3 := Yb3.lt; have Xb3 := Yb3.alloc (.cells #[.int .u64 (M.nu g.1), .int .u64 (M.nu g.2)] 24); have Ys3 := Xs2.below hb3; have cs3 := Ys3.cells; have ls3 := Ys3.lt; have Xs3 := Ys3.alloc (.cells #[.int .u64 (M.nu g.1), .int .u64 (M.nu g.2)] 24); have Xg3 := Bx2.new w3 g; have hY3 := below_trans hB2 hb3; have hB3 := below_one hY3 (o := (.cells #[.int .u64 (M.nu g.1), .int .u64 (M.nu g.2)] 24)); clear hb3))
    generalize w3.alloc (.cells #[.int .u64 (M.nu g.1), .int .u64 (M.nu g.2)] 24) = W at *
    generalize w2.heap.size = Gs at *
    generalize w3.heap.size = Gg at *
    obtain ⟨G, HG, hf, hf4, HO, HW0⟩ := class_of4 w W [(w.heap.size, k), (w.heap.size + 1, o), (w.heap.size + 1 + 1, b), (Gg, g)] [(Gs, s)] (by simp; exact ⟨Xk3, Xo3, Xb3, Xg3⟩) (by simp; exact Xs3) hB3
    have h1 := fun s : Cls G => (hf s (w.heap.size, k) (by simp)).cells
    have h2 := fun s : Cls G => (hf s (w.heap.size + 1, o) (by simp)).cells
    have h3 := fun s : Cls G => (hf s (Gg, g) (by simp)).cells
    have h4 := fun c : Cls G => (hf4 c (Gs, s) (by simp)).cells
    clear hf hf4 Xk3 Xo3 Xb3 Xg3 Xs3 hB3
    skip
    have ne : Nonempty (Cls G) := ⟨⟨_, HW0.out⟩⟩
    refine region_cls (by kernel_rfl) (by kernel_rfl) HW0.out ?_
    repeat (go_big_quiet_step (first | (go_at_call_of 15 (M.nu k.1); exact quiet_below HG.out _ (tag_eq HU.out _)) | (go_at_call_of 15 (M.nu o.1); exact quiet_below HG.out _ (tag_eq HT.out _))))
    refine wpQuiet_nil ?_
    rintro _ ⟨c1, rfl⟩
    go_wp2
    refine region_cls (by kernel_rfl) (by kernel_rfl) (c1.next HG.out) ?_
    repeat (go_big_quiet_step (first | (go_at_call 13; exact quiet_below HG.out _ (wrap_eq HW.out _))))
    refine wpQuiet_nil ?_
    rintro _ ⟨c2, rfl⟩
    have hB := HO.out c2
    go_wp2
    go_ret
    exact ⟨rfl, hB⟩
  · skip
    have HN : Hid (M.unE o s = 7) := if_neg hT
    obtain ⟨g, hg⟩ : ∃ g : M.Blk, (0#64, 0#64) = g := ⟨_, rfl⟩
    have HV : Hid (M.unV o s = g) := by rw [← hg]; exact if_neg hT
    have HZ : Hid (M.nu g.1 = 0 ∧ M.nu g.2 = 0) := by rw [← hg]; exact ⟨rfl, rfl⟩
    clear hg
    obtain ⟨t, ht⟩ : ∃ t, M.tag o s.1 = t := ⟨_, rfl⟩
    have HT := hid' ht
    have HU : Hid (M.tag k s.1 = s.2) := hid' hS2
    have ht2 : (M.nu t.1 == M.nu s.2.1 && M.nu t.2 == M.nu s.2.2) = false := by rw [blk_beq, ← ht]; simpa using hT
    clear ht hT hS2
    skip
    go_enter Try.func7, Try.ntmps7
    go_wp2_with (first | (go_at_call 8; refine (live4_any _).mono ?_; rintro r w1 ⟨rfl, hb1⟩; have Yk1 := Xk0.below hb1; have ck1 := Yk1.cells; have lk1 := Yk1.lt; have Xk1 := Yk1; have Yo1 := Xo0.below hb1; have co1 := Yo1.cells; have lo1 := Yo1.lt; have Xo1 := Yo1; have Yb1 := Xb0.below hb1; have cb1 := Yb1.cells; have lb1 := Yb1.lt; have Xb1 := Yb1; have hB1 := below_trans hB0 hb1; clear hb1) | (go_at_call 13; refine (wrap_eq HS.out _).mono ?_; rintro r w2 ⟨rfl, hb2⟩; have Yk2 := Xk1.below hb2; have ck2 := Yk2.cells; have lk2 := Yk2.lt; have Xk2 := Yk2.alloc (.cells #[.int .u64 (M.nu s.1.1), .int .u64 (M.nu s.1.2), .int .u64 (M.nu s.2.1), .int .u64 (M.nu s.2.2)] 26); have Yo2 := Xo1.below hb2; have co2 := Yo2.cells; have lo2 := Yo2.lt; have Xo2 := Yo2.alloc (.cells #[.int .u64 (M.nu s.1.1), .int .u64 (M.nu s.1.2), .int .u64 (M.nu s.2.1), .int .u64 (M.nu s.2.2)] 26); have Yb2 := Xb1.below hb2; have cb2 := Yb2.cells; have lb2 := Yb2.lt; have Xb2 := Yb2.alloc (.cells #[.int .u64 (M.nu s.1.1), .int .u64 (M.nu s.1.2), .int .u64 (M.nu s.2.1), .int .u64 (M.nu s.2.2)] 26); have Xs2 := Bx4.new w2 s; have hY2 := below_trans hB1 hb2; have hB2 := below_one hY2 (o := (.cells #[.int .u64 (M.nu s.1.1), .int .u64 (M.nu s.1.2), .int .u64 (M.nu s.2.1), .int .u64 (M.nu s.2.2)] 26)); clear hb2) | (go_at_call 9; refine (unwrap_eq HV.out HN.out _).mono ?_; rintro r w3 ⟨rfl, hb3⟩; have Yk3 := Xk2.below hb3; have ck3 := Yk3.cells; have lk3 := Yk3.lt; have Xk3 := Yk3.alloc (.cells #[.int .u64 (M.nu g.1), .int .u64 (M.nu g.2)] 24); have Yo3 := Xo2.below hb3; have co3 := Yo3.cells; have lo3 := Yo3.lt; have Xo3 := Yo3.alloc (.cells #[.int .u64 (M.nu g.1), .int .u64 (M.nu g.2)] 24); have Yb3 := Xb2.below hb3; have cb3 := Yb3.cells; have lb3 := Yb3.lt; have Xb3 := Yb3.alloc (.cells #[.int .u64 (M.nu g.1), .int .u64 (M.nu g.2)] 24); have Ys3 := Xs2.below hb3; have cs3 := Ys3.cells; have ls3 := Ys3.lt; have Xs3 := Ys3.alloc (.cells #[.int .u64 (M.nu g.1), .int .u64 (M.nu g.2)] 24); have Xg3 := Bx2.new w3 g; have hY3 := below_trans hB2 hb3; have hB3 := below_one hY3 (o := (.cells #[.int .u64 (M.nu g.1), .int .u64 (M.nu g.2)] 24)); clear hb3))
    generalize w3.alloc (.cells #[.int .u64 (M.nu g.1), .int .u64 (M.nu g.2)] 24) = W at *
    generalize w2.heap.size = Gs at *
    generalize w3.heap.size = Gg at *
    obtain ⟨G, HG, hf, hf4, HO, HW0⟩ := class_of4 w W [(w.heap.size, k), (w.heap.size + 1, o), (w.heap.size + 1 + 1, b), (Gg, g)] [(Gs, s)] (by simp; exact ⟨Xk3, Xo3, Xb3, Xg3⟩) (by simp; exact Xs3) hB3
    have h1 := fun s : Cls G => (hf s (w.heap.size, k) (by simp)).cells
    have h2 := fun s : Cls G => (hf s (w.heap.size + 1, o) (by simp)).cells
    have h3 := fun s : Cls G => (hf s (Gg, g) (by simp)).cells
    have h4 := fun c : Cls G => (hf4 c (Gs, s) (by simp)).cells
    clear hf hf4 Xk3 Xo3 Xb3 Xg3 Xs3 hB3
    obtain ⟨g1, g2⟩ := HZ.out
    have ne : Nonempty (Cls G) := ⟨⟨_, HW0.out⟩⟩
    refine region_cls (by kernel_rfl) (by kernel_rfl) HW0.out ?_
    repeat (go_big_quiet_step (first | (go_at_call_of 15 (M.nu k.1); exact quiet_below HG.out _ (tag_eq HU.out _)) | (go_at_call_of 15 (M.nu o.1); exact quiet_below HG.out _ (tag_eq HT.out _))))
    refine wpQuiet_nil ?_
    rintro _ ⟨c1, rfl⟩
    go_wp2
    refine region_cls (by kernel_rfl) (by kernel_rfl) (c1.next HG.out) ?_
    repeat (go_big_quiet_step (first | (go_at_call 13; exact quiet_below HG.out _ (wrap_eq HW.out _))))
    refine wpQuiet_nil ?_
    rintro _ ⟨c2, rfl⟩
    have hB := HO.out c2
    go_wp2
    go_ret
    exact ⟨rfl, hB⟩
end Go.Proofs.Ytfedmkklpambgaa
