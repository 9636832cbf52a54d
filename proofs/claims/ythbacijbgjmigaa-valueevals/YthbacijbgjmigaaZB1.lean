/-
  What a round and its way back come to, in the program and in the document's own answer. No condition.
-/
import Derived.Test.YthbacijbgjmigaaRows
import Derived.Test.YthbacijbgjmigaaZBel
import Derived.Test.YthbacijbgjmigaaZNM
import Derived.WalkKit
import Derived.WalkSpells
import Derived.WalkLawsBesides
import Derived.BigQuiet
namespace Go.Proofs.Ythbacijbgjmigaa
open Go.RowKit
/-- a block as the program holds it -/
def blkV (b : M.Blk) : Value := .agg #[.int .u64 (M.nu b.1), .int .u64 (M.nu b.2)]
theorem b13 : bits .and .u64 13 63 = 13 := by decide
theorem b29 : bits .and .u64 29 63 = 29 := by decide
theorem b51 : bits .and .u64 (IntKind.u64.wrap (-13)) 63 = 51 := by decide
theorem b35 : bits .and .u64 (IntKind.u64.wrap (-29)) 63 = 35 := by decide
theorem ret_u64 {m n : Int} (h : m = n) : Ending.returned (.int .u64 m) = Ending.returned (.int .u64 n) := by rw [h]
theorem hid' {p : Prop} (h : p) : Hid p := h
theorem below_drewN (w : World) (n : Nat) : Below w.heap.size w (w.drewN n) := ⟨rfl, rfl, rfl, Nat.le_refl _, fun _ _ => rfl⟩
theorem rot13 (x : BitVec 64) (w : World) :
    Calls Try.prog 69 #[.int .u64 (M.nu x), .int .i64 13] w fun e w' => e = .returned (.int .u64 (M.nu (M.rotl x 13))) ∧ w' = w := by
  have e1 := b13
  have h0 := M.nu_0 x
  have h1 := M.nu_1 x
  have e2 := hid' (M.nu_rot x 13 _ _ rfl rfl)
  go_enter Try.func69, Try.ntmps69
  go_wp2
  go_ret
  exact ⟨ret_u64 e2.out, rfl⟩
theorem rot29 (x : BitVec 64) (w : World) :
    Calls Try.prog 69 #[.int .u64 (M.nu x), .int .i64 29] w fun e w' => e = .returned (.int .u64 (M.nu (M.rotl x 29))) ∧ w' = w := by
  have e1 := b29
  have h0 := M.nu_0 x
  have h1 := M.nu_1 x
  have e2 := hid' (M.nu_rot x 29 _ _ rfl rfl)
  go_enter Try.func69, Try.ntmps69
  go_wp2
  go_ret
  exact ⟨ret_u64 e2.out, rfl⟩
theorem rot51 (x : BitVec 64) (w : World) :
    Calls Try.prog 69 #[.int .u64 (M.nu x), .int .i64 (-13)] w fun e w' => e = .returned (.int .u64 (M.nu (M.rotl x 51))) ∧ w' = w := by
  have e1 := b51
  have h0 := M.nu_0 x
  have h1 := M.nu_1 x
  have e2 := hid' (M.nu_rot x 51 _ _ rfl rfl)
  go_enter Try.func69, Try.ntmps69
  go_wp2
  go_ret
  exact ⟨ret_u64 e2.out, rfl⟩
theorem rot35 (x : BitVec 64) (w : World) :
    Calls Try.prog 69 #[.int .u64 (M.nu x), .int .i64 (-29)] w fun e w' => e = .returned (.int .u64 (M.nu (M.rotl x 35))) ∧ w' = w := by
  have e1 := b35
  have h0 := M.nu_0 x
  have h1 := M.nu_1 x
  have e2 := hid' (M.nu_rot x 35 _ _ rfl rfl)
  go_enter Try.func69, Try.ntmps69
  go_wp2
  go_ret
  exact ⟨ret_u64 e2.out, rfl⟩
theorem turned13 (x : BitVec 64) (w : World) :
    Calls Try.prog 59 #[.int .u64 (M.nu x), .int .i64 13] w fun e w' => e = .returned (.int .u64 (M.nu (M.rotl x 13))) ∧ ∃ n, w' = w.drewN n := by
  have h0 := M.nu_0 x
  have h1 := M.nu_1 x
  have e2 := hid' (M.nu_rot x 13 _ _ rfl rfl)
  go_enter Try.func59, Try.ntmps59
  go_wp2
  go_quiet (fail)
  go_wp2
  go_ret
  exact ⟨ret_u64 e2.out, _, rfl⟩
theorem turned29 (x : BitVec 64) (w : World) :
    Calls Try.prog 59 #[.int .u64 (M.nu x), .int .i64 29] w fun e w' => e = .returned (.int .u64 (M.nu (M.rotl x 29))) ∧ ∃ n, w' = w.drewN n := by
  have h0 := M.nu_0 x
  have h1 := M.nu_1 x
  have e2 := hid' (M.nu_rot x 29 _ _ rfl rfl)
  go_enter Try.func59, Try.ntmps59
  go_wp2
  go_quiet (fail)
  go_wp2
  go_ret
  exact ⟨ret_u64 e2.out, _, rfl⟩
theorem below_dr {n : Nat} {W W' : World} (h : Below n W W') (k : Nat) : Below n W (W'.drewN k) := ⟨h.os, h.tape, h.output, h.size, h.block⟩
theorem below_set {B : Nat} {a w : World} (h : Below B a w) {p : Addr} (hp : B ≤ p.block) (u : Value) : Below B a (w.setCell p u) := h.setCell hp u
theorem below_d1 {n : Nat} {W W' : World} (h : Below n W W') : Below n W W'.drew := h.drew
/-- a block of two cells -/
def Bx2 (W : World) (B : Nat) (b : M.Blk) : Prop := W.heap[B]? = some (.cells #[.int .u64 (M.nu b.1), .int .u64 (M.nu b.2)] 27 (0, 0))
theorem Bx2.lt {W : World} {B : Nat} {b : M.Blk} (h : Bx2 W B b) : B < W.heap.size := (Array.getElem?_eq_some_iff.1 h).1
theorem Bx2.facts {W : World} {B : Nat} {b : M.Blk} (h : Bx2 W B b) : W.cell? ⟨B, 0, none⟩ = some (.int .u64 (M.nu b.1)) ∧ W.cell? ⟨B, 1, none⟩ = some (.int .u64 (M.nu b.2)) ∧ W.frozen? ⟨B, 0, none⟩ = false ∧ W.frozen? ⟨B, 1, none⟩ = false := by
  have h' : W.heap[B]? = _ := h
  refine ⟨?_, ?_, ?_, ?_⟩
  · simp [World.cell?, h']
  · simp [World.cell?, h']
  · simp [World.frozen?, h']
  · simp [World.frozen?, h']
theorem Bx2.new (W : World) (b : M.Blk) : Bx2 (W.alloc (.cells #[.int .u64 (M.nu b.1), .int .u64 (M.nu b.2)] 27)) W.heap.size b := by
  show (W.heap.push _)[W.heap.size]? = _
  simp
theorem Bx2.alloc {W : World} {B : Nat} {b : M.Blk} (h : Bx2 W B b) (o : Obj) : Bx2 (W.alloc o) B b := (Below.heap_alloc _ _ _ h.lt).trans h
theorem Bx2.drewN {W : World} {B : Nat} {b : M.Blk} (h : Bx2 W B b) (n : Nat) : Bx2 (W.drewN n) B b := h
theorem Bx2.below {W W' : World} {B : Nat} {b : M.Blk} (h : Bx2 W B b) (hb : Below W.heap.size W W') : Bx2 W' B b := (hb.block B h.lt).trans h
theorem Bx2.set {W : World} {B : Nat} {b : M.Blk} (h : Bx2 W B b) (c : M.Blk) : Bx2 ((W.setCell ⟨B, 0, none⟩ (.int .u64 (M.nu c.1))).setCell ⟨B, 1, none⟩ (.int .u64 (M.nu c.2))) B c := by
  have h' : W.heap[B]? = _ := h
  unfold Bx2
  simp only [World.setCell, Array.getElem?_modify, if_true, h', Option.map_some]
  rfl
theorem Bx2.other {W : World} {B : Nat} {b : M.Blk} (h : Bx2 W B b) {p : Addr} (hp : B ≠ p.block) (v : Value) : Bx2 (W.setCell p v) B b := (Below.heap_setCell _ _ _ _ hp).trans h
theorem nu_stride (k x y : BitVec 64) : IntKind.u64.wrap (IntKind.u64.wrap (M.nu x + M.nu y) + IntKind.u64.wrap (M.nu k * 11400714819323198485)) = M.nu (x + y + k * M.cst) := by
  rw [M.nu_add, M.nu_mulc, M.nu_add]
theorem nu_unstride (k x y : BitVec 64) : IntKind.u64.wrap (IntKind.u64.wrap (M.nu x - M.nu y) - IntKind.u64.wrap (M.nu k * 11400714819323198485)) = M.nu (x - y - k * M.cst) := by
  rw [M.nu_sub, M.nu_mulc, M.nu_sub]
set_option maxHeartbeats 400000 in
theorem round_any (b : M.Blk) (k : BitVec 64) (w : World) :
    Calls Try.prog 64 #[blkV b, .int .u64 (M.nu k)] w fun e w' => e = .returned (blkV (M.rnd b k)) ∧ Below w.heap.size w w' := by
  obtain ⟨x, y⟩ := b
  have e1 := nu_stride k x y
  have e2 := M.nu_xor y (M.rotl (x + y + k * M.cst) 13)
  have e3 := M.nu_xor (M.rotl (x + y + k * M.cst) 13) (M.rotl (y ^^^ M.rotl (x + y + k * M.cst) 13) 29)
  have T1 := hid' trivial
  unfold blkV M.rnd
  dsimp only
  go_enter Try.func64, Try.ntmps64
  go_wp2
  go_quiet (fail)
  go_wp2_with (first | (go_at_call 69; clear T1; refine (rot13 _ _).mono ?_; rintro e w' ⟨rfl, hw⟩; subst w') | (go_at_call 69; refine (rot29 _ _).mono ?_; rintro e w' ⟨rfl, hw⟩; subst w'))
  refine bodyPost_ret (v := .agg #[.int .u64 _, .int .u64 _]) (by simp [results, Try.results64, go_sem]) rfl ⟨rfl, ?_⟩
  (repeat' (first | exact Below.refl _ _ | with_reducible refine below_set ?_ (by simp; try omega) _ | with_reducible refine below_one ?_ | with_reducible refine below_dr ?_ _ | with_reducible refine below_d1 ?_))
theorem xor_any (a b : M.Blk) (w : World) :
    Calls Try.prog 54 #[blkV a, blkV b] w fun e w' => e = .returned (blkV (M.xor a b)) ∧ Below w.heap.size w w' := by
  obtain ⟨x, y⟩ := a
  obtain ⟨p, q⟩ := b
  have e1 := M.nu_xor x p
  have e2 := M.nu_xor y q
  unfold blkV M.xor
  dsimp only
  go_enter Try.func54, Try.ntmps54
  go_wp2
  refine bodyPost_ret (v := .agg #[.int .u64 _, .int .u64 _]) (by simp [results, Try.results54, go_sem]) rfl ⟨rfl, ?_⟩
  (repeat' (first | exact Below.refl _ _ | with_reducible refine below_set ?_ (by simp; try omega) _ | with_reducible refine below_one ?_ | with_reducible refine below_dr ?_ _ | with_reducible refine below_d1 ?_))
theorem rxor_any (a b : M.Blk) (w : World) :
    Calls Try.prog 35 #[blkV a, blkV b] w fun e w' => e = .returned (blkV (M.xor a b)) ∧ Below w.heap.size w w' := by
  obtain ⟨x, y⟩ := a
  obtain ⟨p, q⟩ := b
  have e1 := M.nu_xor x p
  have e2 := M.nu_xor y q
  unfold blkV M.xor
  dsimp only
  go_enter Try.func35, Try.ntmps35
  go_wp2
  refine bodyPost_ret (v := .agg #[.int .u64 _, .int .u64 _]) (by simp [results, Try.results35, go_sem]) rfl ⟨rfl, ?_⟩
  (repeat' (first | exact Below.refl _ _ | with_reducible refine below_set ?_ (by simp; try omega) _ | with_reducible refine below_one ?_ | with_reducible refine below_dr ?_ _ | with_reducible refine below_d1 ?_))
set_option maxHeartbeats 400000 in
theorem rround_any (b : M.Blk) (k : BitVec 64) (w : World) :
    Calls Try.prog 49 #[blkV b, .int .u64 (M.nu k)] w fun e w' => e = .returned (blkV (M.rnd b k)) ∧ Below w.heap.size w w' := by
  obtain ⟨x, y⟩ := b
  have e1 := nu_stride k x y
  have e2 := M.nu_xor y (M.rotl (x + y + k * M.cst) 13)
  have e3 := M.nu_xor (M.rotl (x + y + k * M.cst) 13) (M.rotl (y ^^^ M.rotl (x + y + k * M.cst) 13) 29)
  have T1 := hid' trivial
  unfold blkV M.rnd
  dsimp only
  go_enter Try.func49, Try.ntmps49
  go_wp2_with (first | (go_at_call 59; clear T1; refine (turned13 _ _).mono ?_; rintro e w1 ⟨rfl, n1, hw1⟩; subst w1) | (go_at_call 59; refine (turned29 _ _).mono ?_; rintro e w2 ⟨rfl, n2, hw2⟩; subst w2))
  refine bodyPost_ret (v := .agg #[.int .u64 _, .int .u64 _]) (by simp [results, Try.results49, go_sem]) rfl ⟨rfl, ?_⟩
  (repeat' (first | exact Below.refl _ _ | with_reducible refine below_set ?_ (by simp; try omega) _ | with_reducible refine below_one ?_ | with_reducible refine below_dr ?_ _ | with_reducible refine below_d1 ?_))
end Go.Proofs.Ythbacijbgjmigaa
