/-
  The law MixBack: what is mixed is taken back, and the other way round. No condition.
-/
import Derived.Test.YtkigboncelhehaaL3a
namespace Go.Proofs.Ytkigboncelhehaa
open Go.RowKit
theorem mix_eq {a m : M.Blk} (h : M.mix a = m) (w : World) : Calls Try.prog 14 #[.agg #[.int .u64 (M.nu a.1), .int .u64 (M.nu a.2)]] w fun e w' => e = .returned (.agg #[.int .u64 (M.nu m.1), .int .u64 (M.nu m.2)]) ∧ Below w.heap.size w w' := by
  subst h; exact mix_at a w
theorem rmix_eq {a m : M.Blk} (h : M.mix a = m) (w : World) : Calls Try.prog 15 #[.agg #[.int .u64 (M.nu a.1), .int .u64 (M.nu a.2)]] w fun e w' => e = .returned (.agg #[.int .u64 (M.nu m.1), .int .u64 (M.nu m.2)]) ∧ Below w.heap.size w w' := by
  subst h; exact rmix_at a w
theorem unmix_eq {a m : M.Blk} (h : M.unmix a = m) (w : World) : Calls Try.prog 24 #[.agg #[.int .u64 (M.nu a.1), .int .u64 (M.nu a.2)]] w fun e w' => e = .returned (.agg #[.int .u64 (M.nu m.1), .int .u64 (M.nu m.2)]) ∧ Below w.heap.size w w' := by
  subst h; exact unmix_at a w
set_option maxRecDepth 100000 in
set_option maxHeartbeats 4000000 in
theorem mixBack_walk (a b : M.Blk) (w : World) :
    Calls Try.prog 5 #[blkV a, blkV b] w fun e w' => e = .returned (.bool true) ∧ Below w.heap.size w w' := by
  have hq := eqB
  have hx : Bx2 ((w.alloc (.cells #[.int .u64 (M.nu a.1), .int .u64 (M.nu a.2)] 24)).alloc (.cells #[.int .u64 (M.nu b.1), .int .u64 (M.nu b.2)] 24)) w.heap.size a := (Bx2.new w a).alloc _
  have hy : Bx2 ((w.alloc (.cells #[.int .u64 (M.nu a.1), .int .u64 (M.nu a.2)] 24)).alloc (.cells #[.int .u64 (M.nu b.1), .int .u64 (M.nu b.2)] 24)) (w.heap.size + 1) b := by
    have := Bx2.new (w.alloc (.cells #[.int .u64 (M.nu a.1), .int .u64 (M.nu a.2)] 24)) b
    rwa [World.size_alloc] at this
  have HX := hid' hx
  have HY := hid' hy
  clear hx hy
  have E1 := hid' (M.unmix_mix a)
  have E2 := hid' (M.mix_unmix a)
  have e3 := blk_same a b
  obtain ⟨ma, hma⟩ : ∃ m, M.mix a = m := ⟨_, rfl⟩
  obtain ⟨mb, hmb⟩ : ∃ m, M.mix b = m := ⟨_, rfl⟩
  obtain ⟨ua, hua⟩ : ∃ m, M.unmix a = m := ⟨_, rfl⟩
  rw [hma] at E1
  rw [hua] at E2
  rw [hma, hmb] at e3
  have H1 := hid' hma
  have H2 := hid' hmb
  have H3 := hid' hua
  clear hma hmb hua
  unfold blkV
  go_enter Try.func5, Try.ntmps5
  go_wp2_with (first | (go_at_call 11; refine (live_any _).mono ?_; rintro e w1 ⟨rfl, hb1⟩; have hx := HX.out.below hb1; have hy := HY.out.below hb1; have hB : Below w.heap.size w w1 := below_trans (below_one (below_one (Below.refl _ _))) hb1; clear hb1 HX HY))
  obtain ⟨G, HG, hf, HO, HW⟩ := class_of w w1 [(w.heap.size, a), (w.heap.size + 1, b)] (by simp; exact ⟨hx, hy⟩) hB
  have h1 := fun s : Cls G => (hf s (w.heap.size, a) (by simp)).cells
  have h2 := fun s : Cls G => (hf s (w.heap.size + 1, b) (by simp)).cells
  clear hf hx hy hB
  have ne : Nonempty (Cls G) := ⟨⟨_, HW.out⟩⟩
  refine region_cls (by kernel_rfl) (by kernel_rfl) HW.out ?_
  repeat (go_big_quiet_step (first | (go_at_call_of 14 (Value.agg #[.int .u64 (M.nu a.1), .int .u64 (M.nu a.2)]); exact quiet_below HG.out _ (mix_eq H1.out _)) | (go_at_call_of 14 (Value.agg #[.int .u64 (M.nu b.1), .int .u64 (M.nu b.2)]); exact quiet_below HG.out _ (mix_eq H2.out _)) | (go_at_call_of 14 (Value.agg #[.int .u64 (M.nu ua.1), .int .u64 (M.nu ua.2)]); exact quiet_below HG.out _ (mix_eq E2.out _)) | (go_at_call_of 24 (Value.agg #[.int .u64 (M.nu a.1), .int .u64 (M.nu a.2)]); exact quiet_below HG.out _ (unmix_eq H3.out _)) | (go_at_call_of 24 (Value.agg #[.int .u64 (M.nu ma.1), .int .u64 (M.nu ma.2)]); exact quiet_below HG.out _ (unmix_eq E1.out _))))
  refine wpQuiet_nil ?_
  rintro _ ⟨s, rfl⟩
  have hB := HO.out s
  go_wp2
  go_ret
  exact ⟨rfl, hB⟩
end Go.Proofs.Ytkigboncelhehaa
