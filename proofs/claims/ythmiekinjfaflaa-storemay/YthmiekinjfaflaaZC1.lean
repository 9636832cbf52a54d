/-
  What is wrapped, in memory; '==' of it. Conditions: each theorem's own premises.
-/
import Derived.Test.YthmiekinjfaflaaZB15
import Derived.Test.YthmiekinjfaflaaZB6
import Derived.Test.YthmiekinjfaflaaZNW
import Derived.Laws.StructEq
import Derived.Deep.RegionLaw
import Derived.ProofKit
import Derived.OpenShut
namespace Go.Proofs.Ythmiekinjfaflaa
open Go.RowKit
/-- what is wrapped, as the program holds it -/
def seaV (s : M.Sea) : Value := .agg #[.int .u64 (M.nu s.1.1), .int .u64 (M.nu s.1.2), .int .u64 (M.nu s.2.1), .int .u64 (M.nu s.2.2)]
/-- a block of four cells -/
def Bx4 (W : World) (B : Nat) (s : M.Sea) : Prop := W.heap[B]? = some (.cells #[.int .u64 (M.nu s.1.1), .int .u64 (M.nu s.1.2), .int .u64 (M.nu s.2.1), .int .u64 (M.nu s.2.2)] 49 (0, 0))
theorem Bx4.lt {W : World} {B : Nat} {s : M.Sea} (h : Bx4 W B s) : B < W.heap.size := (Array.getElem?_eq_some_iff.1 h).1
theorem Bx4.cells {W : World} {B : Nat} {s : M.Sea} (h : Bx4 W B s) : W.cell? ⟨B, 0, none⟩ = some (.int .u64 (M.nu s.1.1)) ∧ W.cell? ⟨B, 1, none⟩ = some (.int .u64 (M.nu s.1.2)) ∧ W.cell? ⟨B, 2, none⟩ = some (.int .u64 (M.nu s.2.1)) ∧ W.cell? ⟨B, 3, none⟩ = some (.int .u64 (M.nu s.2.2)) := by
  have h' : W.heap[B]? = _ := h
  refine ⟨?_, ?_, ?_, ?_⟩ <;> simp [World.cell?, h']
theorem Bx4.frozen {W : World} {B : Nat} {s : M.Sea} (h : Bx4 W B s) : W.frozen? ⟨B, 0, none⟩ = false ∧ W.frozen? ⟨B, 1, none⟩ = false ∧ W.frozen? ⟨B, 2, none⟩ = false ∧ W.frozen? ⟨B, 3, none⟩ = false := by
  have h' : W.heap[B]? = _ := h
  refine ⟨?_, ?_, ?_, ?_⟩ <;> simp [World.frozen?, h']
set_option maxRecDepth 100000 in
theorem Bx4.new (W : World) (s : M.Sea) : Bx4 (W.alloc (.cells #[.int .u64 (M.nu s.1.1), .int .u64 (M.nu s.1.2), .int .u64 (M.nu s.2.1), .int .u64 (M.nu s.2.2)] 49)) W.heap.size s := by
  show (W.heap.push _)[W.heap.size]? = _
  simp
theorem Bx4.alloc {W : World} {B : Nat} {s : M.Sea} (h : Bx4 W B s) (o : Obj) : Bx4 (W.alloc o) B s := (Below.heap_alloc _ _ _ h.lt).trans h
theorem Bx4.below {W W' : World} {B : Nat} {s : M.Sea} (h : Bx4 W B s) (hb : Below W.heap.size W W') : Bx4 W' B s := (hb.block B h.lt).trans h
theorem Bx4.other {W : World} {B : Nat} {s : M.Sea} (h : Bx4 W B s) {p : Addr} (hp : B ≠ p.block) (v : Value) : Bx4 (W.setCell p v) B s := (Below.heap_setCell _ _ _ _ hp).trans h
set_option maxRecDepth 100000 in
theorem eqBd (d : Nat) (x y p q : Int) (w : World) : (Op.equalIn (d + 2) 41 (.agg #[.int .u64 x, .int .u64 y]) (.agg #[.int .u64 p, .int .u64 q])).run Try.prog w = .ok (x == p && y == q) w := by
  obtain ⟨i0, hi, hz0, hz1, hz2⟩ := info_parts Try.infoU64b
  rw [run_equalIn_array w (d + 1) (n := 2) (e := 22) _ _ Try.underlying41 hi, Try.cellsU64b]
  simp [List.range, List.range.loop, Op.eqItems, part, go_sem]
  by_cases h1 : x = p <;> by_cases h2 : y = q <;> simp [h1, h2]
set_option maxRecDepth 100000 in
theorem Try.fieldsS : (Try.prog.fieldsOf 49) = #[⟨"C", 41, 0, false, "", "", 0⟩, ⟨"T", 41, 2, false, "", "", 16⟩] := by kernel_rfl
set_option maxRecDepth 100000 in
theorem Try.heldS : Try.prog.stoodInHeld 49 = false := by kernel_rfl
set_option maxRecDepth 100000 in
theorem Try.structS : Try.prog.underlying 49 = some (.struct (Try.prog.fieldsOf 49)) := by kernel_rfl
set_option maxRecDepth 100000 in
/-- '==' of two sealed -/
theorem eqS (a b c d x y z u : Int) (w : World) : (Op.equalIn 10000 49 (.agg #[.int .u64 a, .int .u64 b, .int .u64 c, .int .u64 d]) (.agg #[.int .u64 x, .int .u64 y, .int .u64 z, .int .u64 u])).run Try.prog w = .ok ((a == x && b == y) && (c == z && d == u)) w := by
  rw [run_equalIn_struct w 9999 _ _ _ Try.structS Try.heldS, Try.fieldsS]
  simp [Op.eqFields, part, go_sem, eqBd 9997]
  by_cases h1 : a = x <;> by_cases h2 : b = y <;> by_cases h3 : c = z <;> by_cases h4 : d = u <;> simp [h1, h2, h3, h4]
theorem sea_beq (a b : M.Sea) : ((M.nu a.1.1 == M.nu b.1.1 && M.nu a.1.2 == M.nu b.1.2) && (M.nu a.2.1 == M.nu b.2.1 && M.nu a.2.2 == M.nu b.2.2)) = decide (a = b) := by
  rw [blk_beq, blk_beq]
  obtain ⟨p, q⟩ := a
  obtain ⟨r, t⟩ := b
  rw [Bool.eq_iff_iff]
  simp
end Go.Proofs.Ythmiekinjfaflaa
namespace Go.Proofs.Ythmiekinjfaflaa
open Go.RowKit
theorem Bx4.set {W : World} {B : Nat} {s : M.Sea} (h : Bx4 W B s) (c : M.Sea) : Bx4 ((((W.setCell ⟨B, 0, none⟩ (.int .u64 (M.nu c.1.1))).setCell ⟨B, 1, none⟩ (.int .u64 (M.nu c.1.2))).setCell ⟨B, 2, none⟩ (.int .u64 (M.nu c.2.1))).setCell ⟨B, 3, none⟩ (.int .u64 (M.nu c.2.2))) B c := by
  have h' : W.heap[B]? = _ := h
  unfold Bx4
  simp only [World.setCell, Array.getElem?_modify, if_true, h', Option.map_some]
  rfl
theorem below_set4 {w W : World} {B : Nat} (h : Below w.heap.size w W) (hB : w.heap.size ≤ B) (u v x y : Value) : Below w.heap.size w ((((W.setCell ⟨B, 0, none⟩ u).setCell ⟨B, 1, none⟩ v).setCell ⟨B, 2, none⟩ x).setCell ⟨B, 3, none⟩ y) := (((h.setCell hB _).setCell hB _).setCell hB _).setCell hB _
theorem goods4 (w W : World) (bs : List (Nat × M.Blk)) (ss : List (Nat × M.Sea)) (h : ∀ p ∈ bs, Bx2 W p.1 p.2) (h4 : ∀ p ∈ ss, Bx4 W p.1 p.2) (hB : Below w.heap.size w W) : ∃ G : World → Prop, Hid (∀ X X', G X → Below X.heap.size X X' → G X') ∧ Hid (∀ X, G X → ∀ p ∈ bs, Bx2 X p.1 p.2) ∧ Hid (∀ X, G X → ∀ p ∈ ss, Bx4 X p.1 p.2) ∧ Hid (∀ X, G X → Below w.heap.size w X) ∧ Hid (∀ X B o v, G X → W.heap.size ≤ B → G (X.setCell ⟨B, o, none⟩ v)) ∧ G W :=
  ⟨fun X => (∀ p ∈ bs, Bx2 X p.1 p.2) ∧ (∀ p ∈ ss, Bx4 X p.1 p.2) ∧ Below w.heap.size w X, fun _ _ h hb => ⟨fun p hp => (h.1 p hp).below hb, fun p hp => (h.2.1 p hp).below hb, below_trans h.2.2 hb⟩, fun _ h => h.1, fun _ h => h.2.1, fun _ h => h.2.2, fun _ B _ _ hX hb => ⟨fun p hp => (hX.1 p hp).other (by have := (h p hp).lt; simp; omega) _, fun p hp => (hX.2.1 p hp).other (by have := (h4 p hp).lt; simp; omega) _, hX.2.2.setCell (by have := hB.size; simp; omega) _⟩, ⟨h, h4, hB⟩⟩
end Go.Proofs.Ythmiekinjfaflaa
namespace Go.Proofs.Ythmiekinjfaflaa
open Go.RowKit
end Go.Proofs.Ythmiekinjfaflaa
namespace Go.Proofs.Ythmiekinjfaflaa
open Go.RowKit
end Go.Proofs.Ythmiekinjfaflaa
namespace Go.Proofs.Ythmiekinjfaflaa
open Go.RowKit
theorem Bs.src {W : World} {v : Value} {L : List Int} (h : Bs W v L) (h0 : 0 < L.length) : ∃ b off cap, v = .slice (some ⟨b, off, none⟩) L.length cap ∧ L.length ≤ cap ∧ ∀ j u, (u8s L)[j]? = some u → W.cell? ((⟨b, off, none⟩ : Addr).add j) = some u := by
  obtain ⟨ao, cap, rfl, q1, q2, q3, q4⟩ := h
  obtain ⟨b, off, rfl, q5, q6⟩ := q4 (by omega)
  refine ⟨b, off, cap, rfl, q1, fun j u hj => ?_⟩
  have hjl : j < L.length := by
    have := (List.getElem?_eq_some_iff.1 hj).1
    rwa [u8s_length] at this
  rw [u8s_get L j hjl] at hj
  cases hj
  rw [Addr.add_lit]; exact q6 j hjl
theorem u8s_one (L : List Int) : ∀ u ∈ u8s L, u.oneCell' = true := by
  intro u hu
  obtain ⟨_, _, rfl⟩ := List.mem_map.1 hu
  rfl
theorem u8s_append (A L : List Int) : u8s (A ++ L) = u8s A ++ u8s L := List.map_append
theorem own_lower8 {w : World} {b b' : Nat} {e : TypeId} {size : Nat} {v : Value} {n : Nat} {xs : List Value} (h : w.ownsRow b e size v n xs) (hb : b' ≤ b) : w.ownsRow b' e size v n xs := by
  refine ⟨h.1, ?_⟩
  rcases h.2 with hn | ⟨g, cap, cur, h1, h2, rest⟩
  · exact .inl hn
  · exact .inr ⟨g, cap, cur, h1, Nat.le_trans hb h2, rest⟩
theorem le_own {w : World} {b c : Nat} {e : TypeId} {size : Nat} {v : Value} {n : Nat} {xs : List Value} (h : w.ownsRow b e size v n xs) (q : Nat) (hq : v.ownBlock = some q) (hb : c ≤ b) : c ≤ q := Nat.le_trans hb (h.lt q hq).1
end Go.Proofs.Ythmiekinjfaflaa
namespace Go.Proofs.Ythmiekinjfaflaa
open Go.RowKit
end Go.Proofs.Ythmiekinjfaflaa
namespace Go.Proofs.Ythmiekinjfaflaa
open Go.ChangeShapes Go.WideShapes Go.ChangeAt Go.RowKit
set_option maxRecDepth 100000 in
theorem Try.cellsBlk : Try.prog.cellsOf 41 = 2 := by kernel_rfl
set_option maxRecDepth 100000 in
theorem Try.cellsU8 : Try.prog.cellsOf 5 = 1 := by kernel_rfl
set_option maxRecDepth 100000 in
theorem okWide_array {P : Program} {w : World} {r : Reach} {base : Nat} {t : TypeId} {v : Value} {n : Nat} {e : TypeId} (ht : P.underlying t = some (.array n e)) (h : Value.okWide P w r base t v) : ∃ cs, v = .agg cs ∧ cs.size = P.cellsOf t := by
  simp only [Value.okWide, ht] at h
  obtain ⟨cs, h1, h2, _⟩ := h
  exact ⟨cs, h1, h2⟩
set_option maxRecDepth 100000 in
theorem two_of_size {cs : Array Value} (h : cs.size = 2) : ∃ u v, cs = #[u, v] := by
  obtain ⟨l⟩ := cs
  match l, h with
  | [u, v], _ => exact ⟨u, v, rfl⟩
set_option maxRecDepth 100000 in
theorem blk_of_trod {H : Type} {enc : TypeId × Value → H} {W : World} {v : Value} {d : DataW H} {p : List MemPlace} {base : Nat} (hok : Value.okWide Try.prog W .any base 41 v)
    (h : DataW.Trod enc Try.prog W 0 (fun _ => true) true 41 v d p) : ∃ b : M.Blk, v = blkV b := by
  obtain ⟨cs, rfl, hs⟩ := okWide_array Try.underlying41 hok
  rw [Try.cellsBlk] at hs
  obtain ⟨u, v, rfl⟩ := two_of_size hs
  obtain ⟨fuel, hf⟩ := h
  obtain ⟨xs, m, _, _, _, hl, hg⟩ := DataW.trod_array Try.underlying41 hf
  have h0 := hg 0 (by decide)
  have h1 := hg 1 (by decide)
  rw [Try.cellsU64b] at h0 h1
  have e0 : xs[0]? = some xs[0] := List.getElem?_eq_getElem (by omega)
  have e1 : xs[1]? = some xs[1] := List.getElem?_eq_getElem (by omega)
  rw [e0] at h0
  rw [e1] at h1
  obtain ⟨x, hx, _, hw⟩ := DataW.trod_int Try.underlying22 h0
  obtain ⟨y, hy, _, hw2⟩ := DataW.trod_int Try.underlying22 h1
  obtain ⟨b0, b1⟩ := bounds_u64 hw
  obtain ⟨b2, b3⟩ := bounds_u64 hw2
  have eu : u = .int .u64 x := by simpa [Value.cells] using hx
  have ev : v = .int .u64 y := by simpa [Value.cells] using hy
  refine ⟨(BitVec.ofInt 64 x, BitVec.ofInt 64 y), ?_⟩
  unfold blkV
  rw [M.nu_of x b0 b1, M.nu_of y b2 b3, eu, ev]
end Go.Proofs.Ythmiekinjfaflaa
namespace Go.Proofs.Ythmiekinjfaflaa
open Go.RowKit
set_option maxRecDepth 100000 in
theorem class_of4 (w W : World) (bs : List (Nat × M.Blk)) (ss : List (Nat × M.Sea)) (h : ∀ p ∈ bs, Bx2 W p.1 p.2) (h4 : ∀ p ∈ ss, Bx4 W p.1 p.2) (hB : Below w.heap.size w W) : ∃ G : World → Prop, Hid (∀ X X', G X → Below X.heap.size X X' → G X') ∧ (∀ s : Cls G, ∀ p ∈ bs, Bx2 s.W p.1 p.2) ∧ (∀ s : Cls G, ∀ p ∈ ss, Bx4 s.W p.1 p.2) ∧ Hid (∀ s : Cls G, Below w.heap.size w s.W) ∧ Hid (G { W with drawn := W.drawn + 1 }) :=
  ⟨fun X => (∀ p ∈ bs, Bx2 X p.1 p.2) ∧ (∀ p ∈ ss, Bx4 X p.1 p.2) ∧ Below w.heap.size w X, fun _ _ h hb => ⟨fun p hp => (h.1 p hp).below hb, fun p hp => (h.2.1 p hp).below hb, below_trans h.2.2 hb⟩, fun s => s.ok.1, fun s => s.ok.2.1, fun s => s.ok.2.2, ⟨h, h4, below_d1 hB⟩⟩
set_option maxRecDepth 100000 in
theorem Cls.next {G : World → Prop} (hG : ∀ X X', G X → Below X.heap.size X X' → G X') (s : Cls G) : G { s.W with drawn := s.W.drawn + 1 } := hG _ _ s.ok (below_d1 (Below.refl _ _))
end Go.Proofs.Ythmiekinjfaflaa
namespace Go.Proofs.Ythmiekinjfaflaa
open Go.ChangeShapes Go.WideShapes Go.ChangeAt Go.RowKit
set_option maxRecDepth 100000 in
theorem Try.cellsSea : Try.prog.cellsOf 49 = 4 := by kernel_rfl
set_option maxRecDepth 100000 in
theorem okWide_struct {P : Program} {w : World} {r : Reach} {base : Nat} {t : TypeId} {v : Value} {fs : Array Field} (ht : P.underlying t = some (.struct fs)) (h : Value.okWide P w r base t v) : ∃ cs, v = .agg cs ∧ cs.size = P.cellsOf t := by
  simp only [Value.okWide, ht] at h
  obtain ⟨cs, h1, h2, _⟩ := h
  exact ⟨cs, h1, h2⟩
set_option maxRecDepth 100000 in
theorem four_of_size {cs : Array Value} (h : cs.size = 4) : ∃ u v x y, cs = #[u, v, x, y] := by
  obtain ⟨l⟩ := cs
  match l, h with
  | [u, v, x, y], _ => exact ⟨u, v, x, y, rfl⟩
set_option maxRecDepth 100000 in
theorem blk_of_cells {H : Type} {enc : TypeId × Value → H} {W : World} {u v : Value} {fuel : Nat} {d : DataW H × List MemPlace}
    (h : DataW.trod enc Try.prog W 0 (fun _ => true) true fuel 41 [u, v] = some d) : ∃ b : M.Blk, u = .int .u64 (M.nu b.1) ∧ v = .int .u64 (M.nu b.2) := by
  obtain ⟨xs, m, _, _, _, hl, hg⟩ := DataW.trod_array Try.underlying41 h
  have h0 := hg 0 (by decide)
  have h1 := hg 1 (by decide)
  rw [Try.cellsU64b] at h0 h1
  have e0 : xs[0]? = some xs[0] := List.getElem?_eq_getElem (by omega)
  have e1 : xs[1]? = some xs[1] := List.getElem?_eq_getElem (by omega)
  rw [e0] at h0
  rw [e1] at h1
  obtain ⟨x, hx, _, hw⟩ := DataW.trod_int Try.underlying22 h0
  obtain ⟨y, hy, _, hw2⟩ := DataW.trod_int Try.underlying22 h1
  obtain ⟨b0, b1⟩ := bounds_u64 hw
  obtain ⟨b2, b3⟩ := bounds_u64 hw2
  have eu : u = .int .u64 x := by simpa [Value.cells] using hx
  have ev : v = .int .u64 y := by simpa [Value.cells] using hy
  refine ⟨(BitVec.ofInt 64 x, BitVec.ofInt 64 y), ?_, ?_⟩
  · rw [M.nu_of x b0 b1, eu]
  · rw [M.nu_of y b2 b3, ev]
set_option maxRecDepth 100000 in
theorem sea_of_trod {H : Type} {enc : TypeId × Value → H} {W : World} {v : Value} {d : DataW H} {p : List MemPlace} {base : Nat} (hok : Value.okWide Try.prog W .any base 49 v)
    (h : DataW.Trod enc Try.prog W 0 (fun _ => true) true 49 v d p) : ∃ s : M.Sea, v = seaV s := by
  obtain ⟨cs, rfl, hs⟩ := okWide_struct Try.underlying49 hok
  rw [Try.cellsSea] at hs
  obtain ⟨a, b, x, y, rfl⟩ := four_of_size hs
  obtain ⟨fuel, hf⟩ := h
  obtain ⟨y0, y1, n, _, _, h0, h1⟩ := trod_struct2 Try.underlying49 hf
  rw [Try.cellsBlk] at h0 h1
  obtain ⟨c, e1, e2⟩ := blk_of_cells h0
  obtain ⟨t, e3, e4⟩ := blk_of_cells h1
  refine ⟨(c, t), ?_⟩
  unfold seaV
  rw [e1, e2, e3, e4]
end Go.Proofs.Ythmiekinjfaflaa
