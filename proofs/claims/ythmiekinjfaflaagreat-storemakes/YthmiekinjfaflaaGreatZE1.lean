/-
  Values in memory; '==' of them; what the program's ofBlock, ofTerm, ofSealed, bare and isSealed come to. Conditions: each theorem's own premises.
-/
import Derived.Test.YthmiekinjfaflaaGreatZB15
import Derived.Test.YthmiekinjfaflaaGreatZNW
import Derived.Test.YthmiekinjfaflaaGreatZU5
import Derived.ProofKit
import Derived.OpenShut
namespace Go.Proofs.YthmiekinjfaflaaGreat
open Go.RowKit
/-- a value, as the program holds it -/
def valV (v : M.Val) : Value := (.agg #[.bool v.1, .bool v.2.1, .int .u64 (M.nu v.2.2.1.1), .int .u64 (M.nu v.2.2.1.2), .int .u64 (M.nu v.2.2.2.1.1.1), .int .u64 (M.nu v.2.2.2.1.1.2), .int .u64 (M.nu v.2.2.2.1.2.1), .int .u64 (M.nu v.2.2.2.1.2.2), .int .i64 v.2.2.2.2])
/-- a block of nine cells -/
def Bx9 (W : World) (B : Nat) (v : M.Val) : Prop := W.heap[B]? = some (.cells #[.bool v.1, .bool v.2.1, .int .u64 (M.nu v.2.2.1.1), .int .u64 (M.nu v.2.2.1.2), .int .u64 (M.nu v.2.2.2.1.1.1), .int .u64 (M.nu v.2.2.2.1.1.2), .int .u64 (M.nu v.2.2.2.1.2.1), .int .u64 (M.nu v.2.2.2.1.2.2), .int .i64 v.2.2.2.2] 29 (0, 0))
theorem Bx9.lt {W : World} {B : Nat} {v : M.Val} (h : Bx9 W B v) : B < W.heap.size := (Array.getElem?_eq_some_iff.1 h).1
theorem Bx9.cells {W : World} {B : Nat} {v : M.Val} (h : Bx9 W B v) : W.cell? ⟨B, 0, none⟩ = some (.bool v.1) ∧ W.cell? ⟨B, 1, none⟩ = some (.bool v.2.1) ∧ W.cell? ⟨B, 2, none⟩ = some (.int .u64 (M.nu v.2.2.1.1)) ∧ W.cell? ⟨B, 3, none⟩ = some (.int .u64 (M.nu v.2.2.1.2)) ∧ W.cell? ⟨B, 4, none⟩ = some (.int .u64 (M.nu v.2.2.2.1.1.1)) ∧ W.cell? ⟨B, 5, none⟩ = some (.int .u64 (M.nu v.2.2.2.1.1.2)) ∧ W.cell? ⟨B, 6, none⟩ = some (.int .u64 (M.nu v.2.2.2.1.2.1)) ∧ W.cell? ⟨B, 7, none⟩ = some (.int .u64 (M.nu v.2.2.2.1.2.2)) ∧ W.cell? ⟨B, 8, none⟩ = some (.int .i64 v.2.2.2.2) := by
  have h' : W.heap[B]? = _ := h
  refine ⟨?_, ?_, ?_, ?_, ?_, ?_, ?_, ?_, ?_⟩ <;> simp [World.cell?, h']
theorem Bx9.frozen {W : World} {B : Nat} {v : M.Val} (h : Bx9 W B v) : W.frozen? ⟨B, 0, none⟩ = false ∧ W.frozen? ⟨B, 1, none⟩ = false ∧ W.frozen? ⟨B, 2, none⟩ = false ∧ W.frozen? ⟨B, 3, none⟩ = false ∧ W.frozen? ⟨B, 4, none⟩ = false ∧ W.frozen? ⟨B, 5, none⟩ = false ∧ W.frozen? ⟨B, 6, none⟩ = false ∧ W.frozen? ⟨B, 7, none⟩ = false ∧ W.frozen? ⟨B, 8, none⟩ = false := by
  have h' : W.heap[B]? = _ := h
  refine ⟨?_, ?_, ?_, ?_, ?_, ?_, ?_, ?_, ?_⟩ <;> simp [World.frozen?, h']
set_option maxRecDepth 100000 in
theorem Bx9.new (W : World) (v : M.Val) : Bx9 (W.alloc (.cells #[.bool v.1, .bool v.2.1, .int .u64 (M.nu v.2.2.1.1), .int .u64 (M.nu v.2.2.1.2), .int .u64 (M.nu v.2.2.2.1.1.1), .int .u64 (M.nu v.2.2.2.1.1.2), .int .u64 (M.nu v.2.2.2.1.2.1), .int .u64 (M.nu v.2.2.2.1.2.2), .int .i64 v.2.2.2.2] 29)) W.heap.size v := by
  show (W.heap.push _)[W.heap.size]? = _
  simp
theorem Bx9.alloc {W : World} {B : Nat} {v : M.Val} (h : Bx9 W B v) (o : Obj) : Bx9 (W.alloc o) B v := (Below.heap_alloc _ _ _ h.lt).trans h
theorem Bx9.below {W W' : World} {B : Nat} {v : M.Val} (h : Bx9 W B v) (hb : Below W.heap.size W W') : Bx9 W' B v := (hb.block B h.lt).trans h
theorem Bx9.other {W : World} {B : Nat} {v : M.Val} (h : Bx9 W B v) {p : Addr} (hp : B ≠ p.block) (u : Value) : Bx9 (W.setCell p u) B v := (Below.heap_setCell _ _ _ _ hp).trans h
theorem below_set9 {w W : World} {n B : Nat} (h : Below n w W) (hB : n ≤ B) (a b c d e f g i j : Value) : Below n w (((((((((W.setCell ⟨B, 0, none⟩ a).setCell ⟨B, 1, none⟩ b).setCell ⟨B, 2, none⟩ c).setCell ⟨B, 3, none⟩ d).setCell ⟨B, 4, none⟩ e).setCell ⟨B, 5, none⟩ f).setCell ⟨B, 6, none⟩ g).setCell ⟨B, 7, none⟩ i).setCell ⟨B, 8, none⟩ j) :=
  ((((((((h.setCell hB _).setCell hB _).setCell hB _).setCell hB _).setCell hB _).setCell hB _).setCell hB _).setCell hB _).setCell hB _
set_option maxRecDepth 100000 in
theorem Tryz.fieldsV : (Tryz.prog.fieldsOf 29) = #[⟨"Sym", 4, 0, false, "", "", 0⟩, ⟨"Sealed", 4, 1, false, "", "", 1⟩, ⟨"B", 25, 2, false, "", "", 8⟩, ⟨"S", 27, 4, false, "", "", 24⟩, ⟨"T", 3, 8, false, "", "", 56⟩] := by kernel_rfl
set_option maxRecDepth 100000 in
theorem Tryz.heldV : Tryz.prog.stoodInHeld 29 = false := by kernel_rfl
set_option maxRecDepth 100000 in
theorem Tryz.structV : Tryz.prog.underlying 29 = some (.struct (Tryz.prog.fieldsOf 29)) := by kernel_rfl
set_option maxRecDepth 100000 in
theorem eqSd (n : Nat) (a b c d x y z u : Int) (w : World) : (Op.equalIn (n + 6) 27 (.agg #[.int .u64 a, .int .u64 b, .int .u64 c, .int .u64 d]) (.agg #[.int .u64 x, .int .u64 y, .int .u64 z, .int .u64 u])).run Tryz.prog w = .ok ((a == x && b == y) && (c == z && d == u)) w := by
  rw [run_equalIn_struct w (n + 5) _ _ _ Tryz.structS Tryz.heldS, Tryz.fieldsS]
  simp [Op.eqFields, part, go_sem, eqBd (n + 3)]
  by_cases h1 : a = x <;> by_cases h2 : b = y <;> by_cases h3 : c = z <;> by_cases h4 : d = u <;> simp [h1, h2, h3, h4]
set_option maxRecDepth 100000 in
/-- '==' of two values -/
theorem eqVa (a0 a1 b0 b1 : Bool) (a2 a3 a4 a5 a6 a7 a8 b2 b3 b4 b5 b6 b7 b8 : Int) (w : World) : (Op.equalIn 10000 29 (.agg #[.bool a0, .bool a1, .int .u64 a2, .int .u64 a3, .int .u64 a4, .int .u64 a5, .int .u64 a6, .int .u64 a7, .int .i64 a8]) (.agg #[.bool b0, .bool b1, .int .u64 b2, .int .u64 b3, .int .u64 b4, .int .u64 b5, .int .u64 b6, .int .u64 b7, .int .i64 b8])).run Tryz.prog w = .ok (a0 == b0 && (a1 == b1 && ((a2 == b2 && a3 == b3) && (((a4 == b4 && a5 == b5) && (a6 == b6 && a7 == b7)) && a8 == b8)))) w := by
  rw [run_equalIn_struct w 9999 _ _ _ Tryz.structV Tryz.heldV, Tryz.fieldsV]
  simp [Op.eqFields, part, go_sem, eqBd 9997, eqSd 9993]
  by_cases h0 : a0 = b0 <;> simp [h0]
  by_cases h1 : a1 = b1 <;> simp [h1]
  by_cases h2 : a2 = b2 <;> simp [h2]
  by_cases h3 : a3 = b3 <;> simp [h3]
  by_cases h4 : a4 = b4 <;> simp [h4]
  by_cases h5 : a5 = b5 <;> simp [h5]
  by_cases h6 : a6 = b6 <;> simp [h6]
  by_cases h7 : a7 = b7 <;> simp [h7]
  by_cases h8 : a8 = b8 <;> simp [h8]
theorem val_beq (x y : M.Val) : (x.1 == y.1 && (x.2.1 == y.2.1 && ((M.nu x.2.2.1.1 == M.nu y.2.2.1.1 && M.nu x.2.2.1.2 == M.nu y.2.2.1.2) && (((M.nu x.2.2.2.1.1.1 == M.nu y.2.2.2.1.1.1 && M.nu x.2.2.2.1.1.2 == M.nu y.2.2.2.1.1.2) && (M.nu x.2.2.2.1.2.1 == M.nu y.2.2.2.1.2.1 && M.nu x.2.2.2.1.2.2 == M.nu y.2.2.2.1.2.2)) && x.2.2.2.2 == y.2.2.2.2)))) = decide (x = y) := by
  rw [blk_beq, sea_beq]
  obtain ⟨a, b, c, d, e⟩ := x
  obtain ⟨a', b', c', d', e'⟩ := y
  rw [Bool.eq_iff_iff]
  simp
set_option maxRecDepth 100000 in
set_option maxHeartbeats 4000000 in
theorem ofBlock_any (b : M.Blk) (w : World) :
    Calls Tryz.prog 100 #[(.agg #[.int .u64 (M.nu b.1), .int .u64 (M.nu b.2)])] w fun e w' => e = .returned (.agg #[.bool false, .bool false, .int .u64 (M.nu b.1), .int .u64 (M.nu b.2), .int .u64 0, .int .u64 0, .int .u64 0, .int .u64 0, .int .i64 0]) ∧ Below w.heap.size w w' := by
  go_enter Tryz.func100, Tryz.ntmps100
  go_wp2
  refine bodyPost_ret (v := .agg #[.bool _, .bool _, .int .u64 _, .int .u64 _, .int .u64 _, .int .u64 _, .int .u64 _, .int .u64 _, .int .i64 _]) (by simp [results, Tryz.results100, go_sem]) rfl ⟨rfl, ?_⟩
  exact below_one (below_one (Below.refl _ _))
set_option maxRecDepth 100000 in
theorem ofBlock_eq {b : M.Blk} {v : M.Val} (h : M.ofB b = v) (w : World) :
    Calls Tryz.prog 100 #[(.agg #[.int .u64 (M.nu b.1), .int .u64 (M.nu b.2)])] w fun e w' => e = .returned (.agg #[.bool v.1, .bool v.2.1, .int .u64 (M.nu v.2.2.1.1), .int .u64 (M.nu v.2.2.1.2), .int .u64 (M.nu v.2.2.2.1.1.1), .int .u64 (M.nu v.2.2.2.1.1.2), .int .u64 (M.nu v.2.2.2.1.2.1), .int .u64 (M.nu v.2.2.2.1.2.2), .int .i64 v.2.2.2.2]) ∧ Below w.heap.size w w' := by subst h; exact ofBlock_any _ w
set_option maxRecDepth 100000 in
set_option maxHeartbeats 4000000 in
theorem ofTerm_any (i : Int) (w : World) :
    Calls Tryz.prog 98 #[.int .i64 i] w fun e w' => e = .returned (.agg #[.bool true, .bool false, .int .u64 0, .int .u64 0, .int .u64 0, .int .u64 0, .int .u64 0, .int .u64 0, .int .i64 i]) ∧ Below w.heap.size w w' := by
  go_enter Tryz.func98, Tryz.ntmps98
  go_wp2
  refine bodyPost_ret (v := .agg #[.bool _, .bool _, .int .u64 _, .int .u64 _, .int .u64 _, .int .u64 _, .int .u64 _, .int .u64 _, .int .i64 _]) (by simp [results, Tryz.results98, go_sem]) rfl ⟨rfl, ?_⟩
  exact below_one (Below.refl _ _)
set_option maxRecDepth 100000 in
theorem ofTerm_eq {i : Int} {v : M.Val} (h : M.ofT i = v) (w : World) :
    Calls Tryz.prog 98 #[.int .i64 i] w fun e w' => e = .returned (.agg #[.bool v.1, .bool v.2.1, .int .u64 (M.nu v.2.2.1.1), .int .u64 (M.nu v.2.2.1.2), .int .u64 (M.nu v.2.2.2.1.1.1), .int .u64 (M.nu v.2.2.2.1.1.2), .int .u64 (M.nu v.2.2.2.1.2.1), .int .u64 (M.nu v.2.2.2.1.2.2), .int .i64 v.2.2.2.2]) ∧ Below w.heap.size w w' := by subst h; exact ofTerm_any _ w
set_option maxRecDepth 100000 in
set_option maxHeartbeats 4000000 in
theorem ofSealed_any (s : M.Sea) (w : World) :
    Calls Tryz.prog 102 #[(.agg #[.int .u64 (M.nu s.1.1), .int .u64 (M.nu s.1.2), .int .u64 (M.nu s.2.1), .int .u64 (M.nu s.2.2)])] w fun e w' => e = .returned (.agg #[.bool false, .bool true, .int .u64 0, .int .u64 0, .int .u64 (M.nu s.1.1), .int .u64 (M.nu s.1.2), .int .u64 (M.nu s.2.1), .int .u64 (M.nu s.2.2), .int .i64 0]) ∧ Below w.heap.size w w' := by
  go_enter Tryz.func102, Tryz.ntmps102
  go_wp2
  refine bodyPost_ret (v := .agg #[.bool _, .bool _, .int .u64 _, .int .u64 _, .int .u64 _, .int .u64 _, .int .u64 _, .int .u64 _, .int .i64 _]) (by simp [results, Tryz.results102, go_sem]) rfl ⟨rfl, ?_⟩
  exact below_one (below_one (Below.refl _ _))
set_option maxRecDepth 100000 in
theorem ofSealed_eq {s : M.Sea} {v : M.Val} (h : M.ofS s = v) (w : World) :
    Calls Tryz.prog 102 #[(.agg #[.int .u64 (M.nu s.1.1), .int .u64 (M.nu s.1.2), .int .u64 (M.nu s.2.1), .int .u64 (M.nu s.2.2)])] w fun e w' => e = .returned (.agg #[.bool v.1, .bool v.2.1, .int .u64 (M.nu v.2.2.1.1), .int .u64 (M.nu v.2.2.1.2), .int .u64 (M.nu v.2.2.2.1.1.1), .int .u64 (M.nu v.2.2.2.1.1.2), .int .u64 (M.nu v.2.2.2.1.2.1), .int .u64 (M.nu v.2.2.2.1.2.2), .int .i64 v.2.2.2.2]) ∧ Below w.heap.size w w' := by subst h; exact ofSealed_any _ w
set_option maxRecDepth 100000 in
theorem zbox (W : World) : Bx9 (W.alloc (.cells #[.bool false, .bool false, .int .u64 0, .int .u64 0, .int .u64 0, .int .u64 0, .int .u64 0, .int .u64 0, .int .i64 0] 29)) W.heap.size M.zV := Bx9.new W M.zV
set_option maxRecDepth 100000 in
set_option maxHeartbeats 4000000 in
theorem bare_eq {v r : M.Val} (h : M.bare v = r) (w : World) :
    Calls Tryz.prog 96 #[(.agg #[.bool v.1, .bool v.2.1, .int .u64 (M.nu v.2.2.1.1), .int .u64 (M.nu v.2.2.1.2), .int .u64 (M.nu v.2.2.2.1.1.1), .int .u64 (M.nu v.2.2.2.1.1.2), .int .u64 (M.nu v.2.2.2.1.2.1), .int .u64 (M.nu v.2.2.2.1.2.2), .int .i64 v.2.2.2.2])] w fun e w' => e = .returned (.agg #[.bool r.1, .bool r.2.1, .int .u64 (M.nu r.2.2.1.1), .int .u64 (M.nu r.2.2.1.2), .int .u64 (M.nu r.2.2.2.1.1.1), .int .u64 (M.nu r.2.2.2.1.1.2), .int .u64 (M.nu r.2.2.2.1.2.1), .int .u64 (M.nu r.2.2.2.1.2.2), .int .i64 r.2.2.2.2]) ∧ Below w.heap.size w w' := by
  obtain ⟨s, l, b, q, t⟩ := v
  dsimp only
  unfold M.bare at h
  dsimp only at h
  cases s with
  | true =>
    rw [if_pos rfl] at h
    have HR := hidq h
    have X0 := hidq (zbox (w.alloc (.cells #[.bool true, .bool l, .int .u64 (M.nu b.1), .int .u64 (M.nu b.2), .int .u64 (M.nu q.1.1), .int .u64 (M.nu q.1.2), .int .u64 (M.nu q.2.1), .int .u64 (M.nu q.2.2), .int .i64 t] 29)))
    rw [World.size_alloc] at X0
    have B0 := hidq (show Below w.heap.size w ((w.alloc (.cells #[.bool true, .bool l, .int .u64 (M.nu b.1), .int .u64 (M.nu b.2), .int .u64 (M.nu q.1.1), .int .u64 (M.nu q.1.2), .int .u64 (M.nu q.2.1), .int .u64 (M.nu q.2.2), .int .i64 t] 29)).alloc (.cells #[.bool false, .bool false, .int .u64 0, .int .u64 0, .int .u64 0, .int .u64 0, .int .u64 0, .int .u64 0, .int .i64 0] 29)) from below_one (below_one (Below.refl _ _)))
    clear h
    go_enter Tryz.func96, Tryz.ntmps96
    go_wp2_with (first | (go_at_call 98; refine (ofTerm_eq HR.out _).mono ?_; rintro e w1 ⟨rfl, hb1⟩; have X1 := X0.out.below hb1; obtain ⟨c0, c1, c2, c3, c4, c5, c6, c7, c8⟩ := X1.cells; obtain ⟨f0, f1, f2, f3, f4, f5, f6, f7, f8⟩ := X1.frozen; have B1 := hidq (below_trans B0.out hb1); clear hb1 X1))
    refine bodyPost_ret (v := .agg #[.bool _, .bool _, .int .u64 _, .int .u64 _, .int .u64 _, .int .u64 _, .int .u64 _, .int .u64 _, .int .i64 _]) (by simp [results, Tryz.results96, go_sem, c0, c1, c2, c3, c4, c5, c6, c7, c8]) rfl ⟨rfl, below_set9 B1.out (by omega) _ _ _ _ _ _ _ _ _⟩
  | false =>
    rw [if_neg (by decide)] at h
    cases l with
    | true =>
      rw [if_pos rfl] at h
      have HR := hidq h
      have X0 := hidq (zbox (w.alloc (.cells #[.bool false, .bool true, .int .u64 (M.nu b.1), .int .u64 (M.nu b.2), .int .u64 (M.nu q.1.1), .int .u64 (M.nu q.1.2), .int .u64 (M.nu q.2.1), .int .u64 (M.nu q.2.2), .int .i64 t] 29)))
      rw [World.size_alloc] at X0
      have B0 := hidq (show Below w.heap.size w ((w.alloc (.cells #[.bool false, .bool true, .int .u64 (M.nu b.1), .int .u64 (M.nu b.2), .int .u64 (M.nu q.1.1), .int .u64 (M.nu q.1.2), .int .u64 (M.nu q.2.1), .int .u64 (M.nu q.2.2), .int .i64 t] 29)).alloc (.cells #[.bool false, .bool false, .int .u64 0, .int .u64 0, .int .u64 0, .int .u64 0, .int .u64 0, .int .u64 0, .int .i64 0] 29)) from below_one (below_one (Below.refl _ _)))
      clear h
      go_enter Tryz.func96, Tryz.ntmps96
      go_wp2_with (first | (go_at_call 102; refine (ofSealed_eq HR.out _).mono ?_; rintro e w1 ⟨rfl, hb1⟩; have X1 := X0.out.below hb1; obtain ⟨c0, c1, c2, c3, c4, c5, c6, c7, c8⟩ := X1.cells; obtain ⟨f0, f1, f2, f3, f4, f5, f6, f7, f8⟩ := X1.frozen; have B1 := hidq (below_trans B0.out hb1); clear hb1 X1))
      refine bodyPost_ret (v := .agg #[.bool _, .bool _, .int .u64 _, .int .u64 _, .int .u64 _, .int .u64 _, .int .u64 _, .int .u64 _, .int .i64 _]) (by simp [results, Tryz.results96, go_sem, c0, c1, c2, c3, c4, c5, c6, c7, c8]) rfl ⟨rfl, below_set9 B1.out (by omega) _ _ _ _ _ _ _ _ _⟩
    | false =>
      rw [if_neg (by decide)] at h
      have HR := hidq h
      have X0 := hidq (zbox (w.alloc (.cells #[.bool false, .bool false, .int .u64 (M.nu b.1), .int .u64 (M.nu b.2), .int .u64 (M.nu q.1.1), .int .u64 (M.nu q.1.2), .int .u64 (M.nu q.2.1), .int .u64 (M.nu q.2.2), .int .i64 t] 29)))
      rw [World.size_alloc] at X0
      have B0 := hidq (show Below w.heap.size w ((w.alloc (.cells #[.bool false, .bool false, .int .u64 (M.nu b.1), .int .u64 (M.nu b.2), .int .u64 (M.nu q.1.1), .int .u64 (M.nu q.1.2), .int .u64 (M.nu q.2.1), .int .u64 (M.nu q.2.2), .int .i64 t] 29)).alloc (.cells #[.bool false, .bool false, .int .u64 0, .int .u64 0, .int .u64 0, .int .u64 0, .int .u64 0, .int .u64 0, .int .i64 0] 29)) from below_one (below_one (Below.refl _ _)))
      clear h
      go_enter Tryz.func96, Tryz.ntmps96
      go_wp2_with (first | (go_at_call 100; refine (ofBlock_eq HR.out _).mono ?_; rintro e w1 ⟨rfl, hb1⟩; have X1 := X0.out.below hb1; obtain ⟨c0, c1, c2, c3, c4, c5, c6, c7, c8⟩ := X1.cells; obtain ⟨f0, f1, f2, f3, f4, f5, f6, f7, f8⟩ := X1.frozen; have B1 := hidq (below_trans B0.out hb1); clear hb1 X1))
      refine bodyPost_ret (v := .agg #[.bool _, .bool _, .int .u64 _, .int .u64 _, .int .u64 _, .int .u64 _, .int .u64 _, .int .u64 _, .int .i64 _]) (by simp [results, Tryz.results96, go_sem, c0, c1, c2, c3, c4, c5, c6, c7, c8]) rfl ⟨rfl, below_set9 B1.out (by omega) _ _ _ _ _ _ _ _ _⟩
set_option maxRecDepth 100000 in
set_option maxHeartbeats 4000000 in
theorem isSealed_eq {A : List M.Tm} {v : M.Val} {r : Bool} (h : M.sld A v = r) (hv : v.1 = true → 0 ≤ v.2.2.2.2 ∧ v.2.2.2.2 < (A.length : Int)) {vl : Value} (w : World) (u : Ts w vl A) :
    Calls Tryz.prog 88 #[vl, (.agg #[.bool v.1, .bool v.2.1, .int .u64 (M.nu v.2.2.1.1), .int .u64 (M.nu v.2.2.1.2), .int .u64 (M.nu v.2.2.2.1.1.1), .int .u64 (M.nu v.2.2.2.1.1.2), .int .u64 (M.nu v.2.2.2.1.2.1), .int .u64 (M.nu v.2.2.2.1.2.2), .int .i64 v.2.2.2.2])] w fun e w' => e = .returned (.bool r) ∧ Below w.heap.size w w' := by
  unfold M.sld at h
  cases h2 : v.2.1 with
  | true =>
    obtain rfl : true = r := by simpa [h2] using h
    clear h u hv
    go_enter Tryz.func88, Tryz.ntmps88
    go_wp2
    go_ret
    exact ⟨rfl, below_one (Below.refl _ _)⟩
  | false =>
    cases h1 : v.1 with
    | false =>
      obtain rfl : false = r := by simpa [h2, h1] using h
      clear h u hv
      go_enter Tryz.func88, Tryz.ntmps88
      go_wp2
      go_ret
      exact ⟨rfl, below_one (Below.refl _ _)⟩
    | true =>
      obtain ⟨t0, t1⟩ := hv h1
      obtain ⟨k, hk⟩ : ∃ k : Nat, v.2.2.2.2 = k := ⟨v.2.2.2.2.toNat, by omega⟩
      rw [hk] at h t1
      rw [hk]
      obtain ⟨a0, cap, rfl, q1, q2, q3⟩ := u.form
      obtain ⟨b, off, rfl⟩ := q3 (by omega)
      have hkl : k < A.length := by omega
      obtain ⟨x1, x2, x3⟩ := Ts.cell (u.alloc (.cells #[.bool true, .bool false, .int .u64 (M.nu v.2.2.1.1), .int .u64 (M.nu v.2.2.1.2), .int .u64 (M.nu v.2.2.2.1.1.1), .int .u64 (M.nu v.2.2.2.1.1.2), .int .u64 (M.nu v.2.2.2.1.2.1), .int .u64 (M.nu v.2.2.2.1.2.2), .int .i64 (k : Int)] 29)) hkl
      have h' : decide ((M.at_ A k).1 = 5) = r := by simpa [h2, h1] using h
      rw [← h']
      clear h u hv q3 h' hk x2 x3
      generalize M.at_ A k = t at *
      generalize A.length = n at *
      go_enter Tryz.func88, Tryz.ntmps88
      go_wp2
      go_ret
      exact ⟨rfl, below_one (Below.refl _ _)⟩
end Go.Proofs.YthmiekinjfaflaaGreat
namespace Go.Proofs.YthmiekinjfaflaaGreat
open Go.ChangeShapes Go.WideShapes Go.ChangeAt Go.RowKit
set_option maxRecDepth 100000 in
theorem isq_of_trod {H : Type} {enc : TypeId × Value → H} {W : World} {v : Value} {d : DataW H} {p : List MemPlace} {base : Nat} (hok : Value.okWide Tryz.prog W .any base 65 v)
    (h : DataW.Trod enc Tryz.prog W 0 (fun _ => true) true 65 v d p) (hlt : ∀ x ∈ p, x.block < W.heap.size) : ∃ L, Is W v L :=
  sl_of_trod (E := elInt) Tryz.cellsInt (fun n cs y hl hy => by
    match cs, hl with
    | [u], _ =>
      obtain ⟨a, ha, _, wa⟩ := DataW.trod_int Tryz.underlying3 hy
      have e0 : u = .int .i64 a := by simpa [Value.cells] using ha
      exact ⟨a, by rw [e0]; rfl, bounds_i64 wa⟩) hok h hlt
theorem nine_of_size {cs : Array Value} (h : cs.size = 9) : ∃ a b c d e f g i j, cs = #[a, b, c, d, e, f, g, i, j] := by
  obtain ⟨l⟩ := cs
  match l, h with
  | [a, b, c, d, e, f, g, i, j], _ => exact ⟨a, b, c, d, e, f, g, i, j, rfl⟩
theorem trod_struct5 {P : Program} {H : Type} {enc : TypeId × Value → H} {w : World} {base : Nat} {spare : Nat → Bool} {held : Bool} {t : TypeId} {f0 f1 f2 f3 f4 : Field} {fuel : Nat} {cs : List Value} {x : DataW H × List MemPlace} (ht : P.underlying t = some (.struct #[f0, f1, f2, f3, f4])) (h : DataW.trod enc P w base spare held fuel t cs = some x) :
    ∃ y0 y1 y2 y3 y4 n, DataW.trod enc P w base spare held n f0.type ((cs.drop f0.offset).take (P.cellsOf f0.type)) = some y0 ∧ DataW.trod enc P w base spare held n f1.type ((cs.drop f1.offset).take (P.cellsOf f1.type)) = some y1 ∧ DataW.trod enc P w base spare held n f2.type ((cs.drop f2.offset).take (P.cellsOf f2.type)) = some y2 ∧ DataW.trod enc P w base spare held n f3.type ((cs.drop f3.offset).take (P.cellsOf f3.type)) = some y3 ∧ DataW.trod enc P w base spare held n f4.type ((cs.drop f4.offset).take (P.cellsOf f4.type)) = some y4 := by
  obtain ⟨xs, n, _, _, hl, hlen, hf⟩ := DataW.trod_struct ht h
  match xs, hlen with
  | [y0, y1, y2, y3, y4], _ => exact ⟨y0, y1, y2, y3, y4, n, by simpa using hf 0 f0 rfl, by simpa using hf 1 f1 rfl, by simpa using hf 2 f2 rfl, by simpa using hf 3 f3 rfl, by simpa using hf 4 f4 rfl⟩
set_option maxRecDepth 100000 in
theorem Tryz.cellsVal : Tryz.prog.cellsOf 29 = 9 := by kernel_rfl
set_option maxRecDepth 100000 in
theorem Tryz.cellsBool : Tryz.prog.cellsOf 4 = 1 := by kernel_rfl
set_option maxRecDepth 100000 in
theorem val_of_trod {H : Type} {enc : TypeId × Value → H} {W : World} {v : Value} {d : DataW H} {p : List MemPlace} {base : Nat} (hok : Value.okWide Tryz.prog W .any base 29 v)
    (h : DataW.Trod enc Tryz.prog W 0 (fun _ => true) true 29 v d p) : ∃ x : M.Val, v = valV x ∧ M.fitI x.2.2.2.2 := by
  obtain ⟨cs, rfl, hs⟩ := okWide_struct Tryz.underlying29 hok
  rw [Tryz.cellsVal] at hs
  obtain ⟨a, b, c, d, e, f, g, i, j, rfl⟩ := nine_of_size hs
  obtain ⟨fuel, hf⟩ := h
  have hst : Tryz.prog.underlying 29 = some (.struct #[⟨"Sym", 4, 0, false, "", "", 0⟩, ⟨"Sealed", 4, 1, false, "", "", 1⟩, ⟨"B", 25, 2, false, "", "", 8⟩, ⟨"S", 27, 4, false, "", "", 24⟩, ⟨"T", 3, 8, false, "", "", 56⟩]) := by rw [← Tryz.fieldsV]; exact Tryz.structV
  obtain ⟨y0, y1, y2, y3, y4, n, h0, h1, h2, h3, h4⟩ := trod_struct5 hst hf
  dsimp only at h0 h1 h2 h3 h4
  rw [Tryz.cellsBool] at h0 h1
  rw [Tryz.cellsBlk] at h2
  rw [Tryz.cellsSea] at h3
  rw [Tryz.cellsInt] at h4
  obtain ⟨s, hs, _⟩ := DataW.trod_bool Tryz.underlying4 h0
  obtain ⟨l, hl, _⟩ := DataW.trod_bool Tryz.underlying4 h1
  obtain ⟨bb, e1, e2⟩ := blk_of_cells h2
  obtain ⟨z0, z1, m, _, _, k0, k1⟩ := trod_struct2 Tryz.underlying27 h3
  rw [Tryz.cellsBlk] at k0 k1
  obtain ⟨q1, e3, e4⟩ := blk_of_cells k0
  obtain ⟨q2, e5, e6⟩ := blk_of_cells k1
  obtain ⟨t, ht, _, wt⟩ := DataW.trod_int Tryz.underlying3 h4
  have ea : a = .bool s := by simpa [Value.cells] using hs
  have eb : b = .bool l := by simpa [Value.cells] using hl
  have ej : j = .int .i64 t := by simpa [Value.cells] using ht
  refine ⟨(s, l, bb, (q1, q2), t), ?_, bounds_i64 wt⟩
  unfold valV
  rw [ea, eb, e1, e2, e3, e4, e5, e6, ej]
end Go.Proofs.YthmiekinjfaflaaGreat
