/-
  Regions that draw their order and whose callees lay new memory alone: one walk, over a class of worlds. The two laws MixXor and MixBack. No condition.
-/
import Derived.Test.YtkigboncelhehaaB14
namespace Go.Proofs.Ytkigboncelhehaa
open Go.RowKit
/-- a world of a class -/
structure Cls (G : World → Prop) where
  W : World
  ok : G W
theorem quiet_below {G : World → Prop} (hG : ∀ W W', G W → Below W.heap.size W W' → G W') {P : Program} {f : FuncId} {args : Array Value} (s : Cls G) {v : Value}
    (h : Calls P f args s.W fun e w' => e = .returned v ∧ Below s.W.heap.size s.W w') : Calls P f args s.W fun e w'' => e = .returned v ∧ ∃ t : Cls G, w'' = t.W :=
  h.mono fun _ w' ⟨he, hb⟩ => ⟨he, ⟨w', hG _ _ s.ok hb⟩, rfl⟩
theorem Bx2.cells {W : World} {B : Nat} {b : M.Blk} (h : Bx2 W B b) : W.cell? ⟨B, 0, none⟩ = some (.int .u64 (M.nu b.1)) ∧ W.cell? ⟨B, 1, none⟩ = some (.int .u64 (M.nu b.2)) := ⟨h.facts.1, h.facts.2.1⟩
theorem class_of (w W : World) (bs : List (Nat × M.Blk)) (h : ∀ p ∈ bs, Bx2 W p.1 p.2) (hB : Below w.heap.size w W) : ∃ G : World → Prop, Hid (∀ X X', G X → Below X.heap.size X X' → G X') ∧ (∀ s : Cls G, ∀ p ∈ bs, Bx2 s.W p.1 p.2) ∧ Hid (∀ s : Cls G, Below w.heap.size w s.W) ∧ Hid (G { W with drawn := W.drawn + 1 }) :=
  ⟨fun X => (∀ p ∈ bs, Bx2 X p.1 p.2) ∧ Below w.heap.size w X, fun _ _ h hb => ⟨fun p hp => (h.1 p hp).below hb, below_trans h.2 hb⟩, fun s => s.ok.1, fun s => s.ok.2, ⟨h, below_d1 hB⟩⟩
theorem region_cls {G : World → Prop} {P : Program} {id : Nat} {Q : Exit → Act → World → Prop} {a : Act} {w : World} {l : List Oper} (hm : P.follows .mixedOrders = true) (hB : Region.lexB .any l.toArray = true) (hW : G { w with drawn := w.drawn + 1 })
    (h : wpQuiet P l.toArray (fun w' => ∃ s : Cls G, w' = s.W) (fun a' => ∀ w', (∃ s : Cls G, w' = s.W) → Q .normal a' w') l a) : (Code.region id l.toArray true).wp P Q a w :=
  wp_region_quiet (C := fun w' => ∃ s : Cls G, w' = s.W) hm hB ⟨⟨_, hW⟩, rfl⟩ h
theorem blk_beq (a b : M.Blk) : (M.nu a.1 == M.nu b.1 && M.nu a.2 == M.nu b.2) = decide (a = b) := by
  obtain ⟨x, y⟩ := a
  obtain ⟨p, q⟩ := b
  dsimp only
  rw [Bool.eq_iff_iff]
  simp [M.nu_inj]
theorem blk_same (a b : M.Blk) : (M.nu (M.mix a).1 == M.nu (M.mix b).1 && M.nu (M.mix a).2 == M.nu (M.mix b).2) = (M.nu a.1 == M.nu b.1 && M.nu a.2 == M.nu b.2) := by
  rw [blk_beq, blk_beq]
  simp [M.mix_inj]
set_option maxRecDepth 100000 in
set_option maxHeartbeats 4000000 in
theorem mixXor_walk (a b c : M.Blk) (w : World) :
    Calls Try.prog 9 #[blkV a, blkV b, blkV c] w fun e w' => e = .returned (.bool true) ∧ Below w.heap.size w w' := by
  have hq := eqB
  have h0 : M.nu 0#64 = 0 := rfl
  have hx : Bx2 (((w.alloc (.cells #[.int .u64 (M.nu a.1), .int .u64 (M.nu a.2)] 24)).alloc (.cells #[.int .u64 (M.nu b.1), .int .u64 (M.nu b.2)] 24)).alloc (.cells #[.int .u64 (M.nu c.1), .int .u64 (M.nu c.2)] 24)) w.heap.size a := ((Bx2.new w a).alloc _).alloc _
  have hy : Bx2 (((w.alloc (.cells #[.int .u64 (M.nu a.1), .int .u64 (M.nu a.2)] 24)).alloc (.cells #[.int .u64 (M.nu b.1), .int .u64 (M.nu b.2)] 24)).alloc (.cells #[.int .u64 (M.nu c.1), .int .u64 (M.nu c.2)] 24)) (w.heap.size + 1) b := by
    have := (Bx2.new (w.alloc (.cells #[.int .u64 (M.nu a.1), .int .u64 (M.nu a.2)] 24)) b).alloc (.cells #[.int .u64 (M.nu c.1), .int .u64 (M.nu c.2)] 24)
    rwa [World.size_alloc] at this
  have hz : Bx2 (((w.alloc (.cells #[.int .u64 (M.nu a.1), .int .u64 (M.nu a.2)] 24)).alloc (.cells #[.int .u64 (M.nu b.1), .int .u64 (M.nu b.2)] 24)).alloc (.cells #[.int .u64 (M.nu c.1), .int .u64 (M.nu c.2)] 24)) (w.heap.size + 1 + 1) c := by
    have := Bx2.new ((w.alloc (.cells #[.int .u64 (M.nu a.1), .int .u64 (M.nu a.2)] 24)).alloc (.cells #[.int .u64 (M.nu b.1), .int .u64 (M.nu b.2)] 24)) c
    rwa [World.size_alloc, World.size_alloc] at this
  have HX := hid' hx
  have HY := hid' hy
  have HZ := hid' hz
  clear hx hy hz
  unfold blkV
  go_enter Try.func9, Try.ntmps9
  go_wp2_with (first | (go_at_call 11; refine (live_any _).mono ?_; rintro e w1 ⟨rfl, hb1⟩; have hx := HX.out.below hb1; have hy := HY.out.below hb1; have hz := HZ.out.below hb1; have hB : Below w.heap.size w w1 := below_trans (below_one (below_one (below_one (Below.refl _ _)))) hb1; clear hb1 HX HY HZ; obtain ⟨ac0, ac1, _, _⟩ := hx.facts; obtain ⟨bc0, bc1, _, _⟩ := hy.facts; obtain ⟨cc0, cc1, _, _⟩ := hz.facts) | (go_at_call 16; refine (xor_at a b _).mono ?_; rintro e w2 ⟨rfl, hb2⟩))
  have hx := (hx.below hb2).alloc (.cells #[.int .u64 (M.nu (M.xor a b).1), .int .u64 (M.nu (M.xor a b).2)] 24)
  have hy := (hy.below hb2).alloc (.cells #[.int .u64 (M.nu (M.xor a b).1), .int .u64 (M.nu (M.xor a b).2)] 24)
  have hz := (hz.below hb2).alloc (.cells #[.int .u64 (M.nu (M.xor a b).1), .int .u64 (M.nu (M.xor a b).2)] 24)
  have hu := Bx2.new w2 (M.xor a b)
  have hB := below_one (below_trans hB hb2) (o := .cells #[.int .u64 (M.nu (M.xor a b).1), .int .u64 (M.nu (M.xor a b).2)] 24)
  generalize w2.alloc (.cells #[.int .u64 (M.nu (M.xor a b).1), .int .u64 (M.nu (M.xor a b).2)] 24) = W at *
  generalize w2.heap.size = B at *
  obtain ⟨G, HG, hf, HO, HW⟩ := class_of w W [(w.heap.size, a), (w.heap.size + 1, b), (w.heap.size + 1 + 1, c), (B, M.xor a b)] (by simp; exact ⟨hx, hy, hz, hu⟩) hB
  have h1 := fun s : Cls G => (hf s (w.heap.size, a) (by simp)).cells
  have h2 := fun s : Cls G => (hf s (w.heap.size + 1, b) (by simp)).cells
  have h3 := fun s : Cls G => (hf s (w.heap.size + 1 + 1, c) (by simp)).cells
  have h4 := fun s : Cls G => (hf s (B, M.xor a b) (by simp)).cells
  have e1 : M.xor b a = M.xor a b := M.xor_comm b a
  have e2 : M.xor a a = (0#64, 0#64) := M.xor_self a
  have e3 : M.xor (M.xor a b) b = a := M.xor_xor a b
  have e4 : M.xor a (M.xor b c) = M.xor (M.xor a b) c := (M.xor_assoc a b c).symm
  generalize M.xor a b = ab at *
  clear hf hx hy hz hu hB
  have ne : Nonempty (Cls G) := ⟨⟨_, HW.out⟩⟩
  refine region_cls (by kernel_rfl) (by kernel_rfl) HW.out ?_
  repeat (go_big_quiet_step (first | (go_at_call 16; exact quiet_below HG.out _ (xor_at _ _ _))))
  refine wpQuiet_nil ?_
  rintro _ ⟨s, rfl⟩
  have hB := HO.out s
  go_wp2
  go_ret
  exact ⟨rfl, hB⟩
end Go.Proofs.Ytkigboncelhehaa
