/-
  The law MixApart: no two blocks have one Fold of one text; of a text of sixteen octets no two of these have one Fold into one block. Condition: the slice holds octets.
-/
import Derived.Test.YthbacijbgjmigaaZB15
import Derived.Test.YthbacijbgjmigaaZB6
import Derived.Deep.DeepCutAuto
import Derived.Deep.RegionHeld3
namespace Go.Proofs.Ythbacijbgjmigaa
open Go.RowKit
theorem box4 (w : World) (a b p q : M.Blk) (X : World) (hX : X = (((w.alloc (.cells #[.int .u64 (M.nu a.1), .int .u64 (M.nu a.2)] 27)).alloc (.cells #[.int .u64 (M.nu b.1), .int .u64 (M.nu b.2)] 27)).alloc (.cells #[.int .u64 (M.nu p.1), .int .u64 (M.nu p.2)] 27)).alloc (.cells #[.int .u64 (M.nu q.1), .int .u64 (M.nu q.2)] 27)) : Bx2 X w.heap.size a ∧ Bx2 X (w.heap.size + 1) b ∧ Bx2 X (w.heap.size + 1 + 1) p ∧ Bx2 X (w.heap.size + 1 + 1 + 1) q ∧ Below w.heap.size w X := by
  subst hX
  refine ⟨(((Bx2.new w a).alloc _).alloc _).alloc _, ?_, ?_, ?_, below_one (below_one (below_one (below_one (Below.refl _ _))))⟩
  · have := ((Bx2.new (w.alloc (.cells #[.int .u64 (M.nu a.1), .int .u64 (M.nu a.2)] 27)) b).alloc (.cells #[.int .u64 (M.nu p.1), .int .u64 (M.nu p.2)] 27)).alloc (.cells #[.int .u64 (M.nu q.1), .int .u64 (M.nu q.2)] 27)
    rwa [World.size_alloc] at this
  · have := (Bx2.new ((w.alloc (.cells #[.int .u64 (M.nu a.1), .int .u64 (M.nu a.2)] 27)).alloc (.cells #[.int .u64 (M.nu b.1), .int .u64 (M.nu b.2)] 27)) p).alloc (.cells #[.int .u64 (M.nu q.1), .int .u64 (M.nu q.2)] 27)
    rwa [World.size_alloc, World.size_alloc] at this
  · have := Bx2.new (((w.alloc (.cells #[.int .u64 (M.nu a.1), .int .u64 (M.nu a.2)] 27)).alloc (.cells #[.int .u64 (M.nu b.1), .int .u64 (M.nu b.2)] 27)).alloc (.cells #[.int .u64 (M.nu p.1), .int .u64 (M.nu p.2)] 27)) q
    rwa [World.size_alloc, World.size_alloc, World.size_alloc] at this
theorem goods (w W : World) (bs : List (Nat × M.Blk)) (h : ∀ p ∈ bs, Bx2 W p.1 p.2) (hB : Below w.heap.size w W) : ∃ G : World → Prop, Hid (∀ X X', G X → Below X.heap.size X X' → G X') ∧ Hid (∀ X, G X → ∀ p ∈ bs, Bx2 X p.1 p.2) ∧ Hid (∀ X, G X → Below w.heap.size w X) ∧ Hid (∀ X B o v, G X → W.heap.size ≤ B → G (X.setCell ⟨B, o, none⟩ v)) ∧ G W :=
  ⟨fun X => (∀ p ∈ bs, Bx2 X p.1 p.2) ∧ Below w.heap.size w X, fun _ _ h hb => ⟨fun p hp => (h.1 p hp).below hb, below_trans h.2 hb⟩, fun _ h => h.1, fun _ h => h.2, fun _ B _ _ hX hb => ⟨fun p hp => (hX.1 p hp).other (by have := (h p hp).lt; simp; omega) _, hX.2.setCell (by have := hB.size; simp; omega) _⟩, ⟨h, hB⟩⟩
theorem octets_at (b : M.Blk) (w : World) :
    Calls Try.prog 62 #[.agg #[.int .u64 (M.nu b.1), .int .u64 (M.nu b.2)]] w fun e w' => ∃ g, e = .returned (.slice (some ⟨g, 0, none⟩) 16 16) ∧ Bx16 w' g (M.oc b) ∧ w.heap.size ≤ g ∧ Below w.heap.size w w' := octets_any b w
end Go.Proofs.Ythbacijbgjmigaa
