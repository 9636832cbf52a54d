/-
  Plain mathematics of blocks: rounds, and their way back; octets and numbers. No condition.
-/
import Derived.Test.YthmiekinjfaflaaGreatRows
import Derived.Test.YthmiekinjfaflaaGreatZW1
import Derived.Laws.BitsAllLaws
import Derived.WalkKit
import Derived.WalkSpells
import Derived.WalkLawsBesides
import Derived.BigQuiet
import Derived.Deep.RegionWith
namespace Go.Proofs.YthmiekinjfaflaaGreat
namespace M
abbrev W64 := BitVec 64
/-- a block: two numbers of 64 bits -/
abbrev Blk := BitVec 64 × BitVec 64
def rotl (x : BitVec 64) (k : Nat) : BitVec 64 := (x <<< k) ||| (x >>> (64 - k))
theorem rotl_rotl (x : BitVec 64) (k : Nat) (h0 : 0 < k) (h1 : k < 64) : rotl (rotl x k) (64 - k) = x := by
  apply BitVec.eq_of_getLsbD_eq
  intro i hi
  have e : 64 - (64 - k) = k := by omega
  simp only [rotl, e, BitVec.getLsbD_or, BitVec.getLsbD_shiftLeft, BitVec.getLsbD_ushiftRight]
  by_cases c : i < 64 - k
  · have c1 : k + i < 64 := by omega
    have c2 : ¬ (k + i < k) := by omega
    have c3 : k + i - k = i := by omega
    have c4 : 64 ≤ 64 - k + (k + i) := by omega
    have c5 : x.getLsbD (64 - k + (k + i)) = false := BitVec.getLsbD_of_ge x _ c4
    simp [c, c1, c2, c3, c5, hi]
  · have c1 : i - (64 - k) < 64 := by omega
    have c2 : i - (64 - k) < k := by omega
    have c3 : 64 - k + (i - (64 - k)) = i := by omega
    have c4 : 64 ≤ k + i := by omega
    have c5 : x.getLsbD (64 - k + (k + i)) = false := BitVec.getLsbD_of_ge x _ (by omega)
    simp [c, c1, c2, c3, c5, hi]
def cst : BitVec 64 := 11400714819323198485#64
def rnd (b : Blk) (k : BitVec 64) : Blk :=
  (rotl (b.1 + b.2 + k * cst) 13 ^^^ rotl (b.2 ^^^ rotl (b.1 + b.2 + k * cst) 13) 29, rotl (b.2 ^^^ rotl (b.1 + b.2 + k * cst) 13) 29)
def rndBack (b : Blk) (k : BitVec 64) : Blk :=
  (rotl (b.1 ^^^ b.2) 51 - (rotl b.2 35 ^^^ (b.1 ^^^ b.2)) - k * cst, rotl b.2 35 ^^^ (b.1 ^^^ b.2))
theorem xor_cancel (a b : BitVec 64) : a ^^^ b ^^^ b = a := by rw [BitVec.xor_assoc, BitVec.xor_self, BitVec.xor_zero]
theorem add_sub3 (a b c : BitVec 64) : a + b + c - b - c = a := by
  rw [BitVec.add_assoc, BitVec.add_comm b c, ← BitVec.add_assoc, BitVec.add_sub_cancel, BitVec.add_sub_cancel]
theorem sub_add3 (a b c : BitVec 64) : a - b - c + b + c = a := by
  rw [BitVec.add_assoc, BitVec.add_comm b c, ← BitVec.add_assoc, BitVec.sub_add_cancel, BitVec.sub_add_cancel]
theorem back_rnd (b : Blk) (k : BitVec 64) : rndBack (rnd b k) k = b := by
  obtain ⟨x, y⟩ := b
  unfold rndBack rnd
  dsimp only
  generalize hX : rotl (x + y + k * cst) 13 = X
  generalize hY : rotl (y ^^^ X) 29 = Y
  have h1 : rotl Y 35 = y ^^^ X := by rw [← hY]; exact rotl_rotl _ 29 (by decide) (by decide)
  have h2 : rotl X 51 = x + y + k * cst := by rw [← hX]; exact rotl_rotl _ 13 (by decide) (by decide)
  rw [xor_cancel, h1, h2, xor_cancel, add_sub3]
theorem rnd_back (b : Blk) (k : BitVec 64) : rnd (rndBack b k) k = b := by
  obtain ⟨x, y⟩ := b
  unfold rndBack rnd
  dsimp only
  generalize hX : x ^^^ y = X
  rw [sub_add3]
  have h2 : rotl (rotl X 51) 13 = X := rotl_rotl X 51 (by decide) (by decide)
  rw [h2, xor_cancel]
  have h1 : rotl (rotl y 35) 29 = y := rotl_rotl y 35 (by decide) (by decide)
  rw [h1, ← hX, xor_cancel]
def mixN (b : Blk) : Nat → Blk
  | 0 => b
  | n + 1 => rnd (mixN b n) (BitVec.ofNat 64 n)
def backN (b : Blk) : Nat → Blk
  | 0 => b
  | n + 1 => rndBack (backN b n) (BitVec.ofNat 64 (7 - n))
def mix (b : Blk) : Blk := mixN b 8
def unmix (b : Blk) : Blk := backN b 8
theorem back_mix (b : Blk) : ∀ n, n ≤ 8 → backN (mix b) n = mixN b (8 - n)
  | 0, _ => rfl
  | n + 1, h => by
    rw [backN, back_mix b n (by omega), show 8 - n = (8 - (n + 1)) + 1 by omega, mixN, show 8 - (n + 1) = 7 - n by omega, back_rnd]
theorem mix_back (b : Blk) : ∀ n, n ≤ 8 → mixN (unmix b) n = backN b (8 - n)
  | 0, _ => rfl
  | n + 1, h => by
    have e : 8 - n = (7 - n) + 1 := by omega
    have e2 : 7 - (7 - n) = n := by omega
    rw [mixN, mix_back b n (by omega), e, backN, e2, rnd_back, show 8 - (n + 1) = 7 - n by omega]
theorem unmix_mix (b : Blk) : unmix (mix b) = b := back_mix b 8 (by decide)
theorem mix_unmix (b : Blk) : mix (unmix b) = b := mix_back b 8 (by decide)
theorem mix_inj {a b : Blk} : mix a = mix b ↔ a = b := ⟨fun h => by rw [← unmix_mix a, h, unmix_mix], fun h => by rw [h]⟩
def xor (a b : Blk) : Blk := (a.1 ^^^ b.1, a.2 ^^^ b.2)
theorem xor_xor (a b : Blk) : xor (xor a b) b = a := by unfold xor; dsimp only; rw [xor_cancel, xor_cancel]
theorem xor_comm (a b : Blk) : xor a b = xor b a := by unfold xor; rw [BitVec.xor_comm a.1, BitVec.xor_comm a.2]
theorem xor_self (a : Blk) : xor a a = (0#64, 0#64) := by unfold xor; rw [BitVec.xor_self, BitVec.xor_self]
theorem xor_zero (a : Blk) : xor a (0#64, 0#64) = a := by unfold xor; dsimp only; rw [BitVec.xor_zero, BitVec.xor_zero]
theorem xor_assoc (a b c : Blk) : xor (xor a b) c = xor a (xor b c) := by unfold xor; dsimp only; rw [BitVec.xor_assoc, BitVec.xor_assoc]
theorem xor_inj {a b c : Blk} : xor a c = xor b c ↔ a = b := ⟨fun h => by rw [← xor_xor a c, h, xor_xor], fun h => by rw [h]⟩
theorem xor_injL {a b c : Blk} : xor c a = xor c b ↔ a = b := by rw [xor_comm c, xor_comm c]; exact xor_inj
/-- a number as the program holds it -/
def nu (x : BitVec 64) : Int := (x.toNat : Int)
theorem nu_0 (x : BitVec 64) : 0 ≤ nu x := by unfold nu; omega
theorem nu_1 (x : BitVec 64) : nu x ≤ 18446744073709551615 := by unfold nu; have := x.isLt; omega
theorem nu_inj {x y : BitVec 64} : nu x = nu y ↔ x = y := by
  unfold nu
  constructor
  · intro h; exact BitVec.eq_of_toNat_eq (by omega)
  · intro h; rw [h]
theorem nu_of (n : Int) (h0 : 0 ≤ n) (h1 : n ≤ 18446744073709551615) : nu (BitVec.ofInt 64 n) = n := by
  unfold nu; rw [BitVec.toNat_ofInt]; omega
theorem nu_nat (n : Nat) (h : n < 18446744073709551616) : nu (BitVec.ofNat 64 n) = n := by
  unfold nu; rw [BitVec.toNat_ofNat, Nat.mod_eq_of_lt (by omega)]
theorem nu_xor (x y : BitVec 64) : bits .xor .u64 (nu x) (nu y) = nu (x ^^^ y) := by
  unfold nu; rw [u64_xor_nat _ _ x.isLt y.isLt, BitVec.toNat_xor]
theorem nu_or (x y : BitVec 64) : bits .or .u64 (nu x) (nu y) = nu (x ||| y) := by
  unfold nu; rw [u64_or_nat _ _ x.isLt y.isLt, BitVec.toNat_or]
theorem nu_add (x y : BitVec 64) : IntKind.u64.wrap (nu x + nu y) = nu (x + y) := by
  unfold nu; rw [IntKind.wrap_u64, BitVec.toNat_add]; omega
theorem nu_sub (x y : BitVec 64) : IntKind.u64.wrap (nu x - nu y) = nu (x - y) := by
  unfold nu; rw [IntKind.wrap_u64, BitVec.toNat_sub]; have := x.isLt; have := y.isLt; omega
theorem nu_mulc (k : BitVec 64) : IntKind.u64.wrap (nu k * 11400714819323198485) = nu (k * cst) := by
  unfold nu cst; rw [IntKind.wrap_u64, BitVec.toNat_mul, show (11400714819323198485#64).toNat = 11400714819323198485 from rfl]; omega
theorem nu_shl (x : BitVec 64) (k : Nat) (m : Int) (hm : m = ((2 ^ k : Nat) : Int)) : IntKind.u64.wrap (nu x * m) = nu (x <<< k) := by
  subst hm
  unfold nu; rw [IntKind.wrap_u64, BitVec.toNat_shiftLeft, Nat.shiftLeft_eq, Int.natCast_emod, Int.natCast_mul]; rfl
theorem nu_shr (x : BitVec 64) (k : Nat) (m : Int) (hm : m = ((2 ^ k : Nat) : Int)) : nu x / m = nu (x >>> k) := by
  subst hm
  unfold nu; rw [BitVec.toNat_ushiftRight, Nat.shiftRight_eq_div_pow, Int.natCast_ediv]
theorem nu_rot (x : BitVec 64) (k : Nat) (m n : Int) (hm : m = ((2 ^ k : Nat) : Int)) (hn : n = ((2 ^ (64 - k) : Nat) : Int)) : bits .or .u64 (IntKind.u64.wrap (nu x * m)) (nu x / n) = nu (rotl x k) := by
  rw [nu_shl x k m hm, nu_shr x _ n hn, nu_or]; rfl
end M
end Go.Proofs.YthmiekinjfaflaaGreat
namespace Go.Proofs.YthmiekinjfaflaaGreat
open Go.RowKit
/-- a block as the program holds it -/
def blkV (b : M.Blk) : Value := .agg #[.int .u64 (M.nu b.1), .int .u64 (M.nu b.2)]
theorem b13 : bits .and .u64 13 63 = 13 := by decide
theorem b29 : bits .and .u64 29 63 = 29 := by decide
theorem b51 : bits .and .u64 (IntKind.u64.wrap (-13)) 63 = 51 := by decide
theorem b35 : bits .and .u64 (IntKind.u64.wrap (-29)) 63 = 35 := by decide
theorem ret_u64 {m n : Int} (h : m = n) : Ending.returned (.int .u64 m) = Ending.returned (.int .u64 n) := by rw [h]
theorem hid' {p : Prop} (h : p) : Hid p := h
theorem below_drewN (w : World) (n : Nat) : Below w.heap.size w (w.drewN n) := ⟨rfl, rfl, rfl, Nat.le_refl _, fun _ _ => rfl⟩
set_option maxRecDepth 100000 in
theorem rot13 (x : BitVec 64) (w : World) :
    Calls Tryz.prog 109 #[.int .u64 (M.nu x), .int .i64 13] w fun e w' => e = .returned (.int .u64 (M.nu (M.rotl x 13))) ∧ w' = w := by
  have e1 := b13
  have h0 := M.nu_0 x
  have h1 := M.nu_1 x
  have e2 := hid' (M.nu_rot x 13 _ _ rfl rfl)
  go_enter Tryz.func109, Tryz.ntmps109
  go_wp2
  go_ret
  exact ⟨ret_u64 e2.out, rfl⟩
set_option maxRecDepth 100000 in
theorem rot29 (x : BitVec 64) (w : World) :
    Calls Tryz.prog 109 #[.int .u64 (M.nu x), .int .i64 29] w fun e w' => e = .returned (.int .u64 (M.nu (M.rotl x 29))) ∧ w' = w := by
  have e1 := b29
  have h0 := M.nu_0 x
  have h1 := M.nu_1 x
  have e2 := hid' (M.nu_rot x 29 _ _ rfl rfl)
  go_enter Tryz.func109, Tryz.ntmps109
  go_wp2
  go_ret
  exact ⟨ret_u64 e2.out, rfl⟩
set_option maxRecDepth 100000 in
theorem rot51 (x : BitVec 64) (w : World) :
    Calls Tryz.prog 109 #[.int .u64 (M.nu x), .int .i64 (-13)] w fun e w' => e = .returned (.int .u64 (M.nu (M.rotl x 51))) ∧ w' = w := by
  have e1 := b51
  have h0 := M.nu_0 x
  have h1 := M.nu_1 x
  have e2 := hid' (M.nu_rot x 51 _ _ rfl rfl)
  go_enter Tryz.func109, Tryz.ntmps109
  go_wp2
  go_ret
  exact ⟨ret_u64 e2.out, rfl⟩
set_option maxRecDepth 100000 in
theorem rot35 (x : BitVec 64) (w : World) :
    Calls Tryz.prog 109 #[.int .u64 (M.nu x), .int .i64 (-29)] w fun e w' => e = .returned (.int .u64 (M.nu (M.rotl x 35))) ∧ w' = w := by
  have e1 := b35
  have h0 := M.nu_0 x
  have h1 := M.nu_1 x
  have e2 := hid' (M.nu_rot x 35 _ _ rfl rfl)
  go_enter Tryz.func109, Tryz.ntmps109
  go_wp2
  go_ret
  exact ⟨ret_u64 e2.out, rfl⟩
set_option maxRecDepth 100000 in
theorem turned13 (x : BitVec 64) (w : World) :
    Calls Tryz.prog 101 #[.int .u64 (M.nu x), .int .i64 13] w fun e w' => e = .returned (.int .u64 (M.nu (M.rotl x 13))) ∧ ∃ n, w' = w.drewN n := by
  have h0 := M.nu_0 x
  have h1 := M.nu_1 x
  have e2 := hid' (M.nu_rot x 13 _ _ rfl rfl)
  go_enter Tryz.func101, Tryz.ntmps101
  go_wp2
  go_quiet (fail)
  go_wp2
  go_ret
  exact ⟨ret_u64 e2.out, _, rfl⟩
set_option maxRecDepth 100000 in
theorem turned29 (x : BitVec 64) (w : World) :
    Calls Tryz.prog 101 #[.int .u64 (M.nu x), .int .i64 29] w fun e w' => e = .returned (.int .u64 (M.nu (M.rotl x 29))) ∧ ∃ n, w' = w.drewN n := by
  have h0 := M.nu_0 x
  have h1 := M.nu_1 x
  have e2 := hid' (M.nu_rot x 29 _ _ rfl rfl)
  go_enter Tryz.func101, Tryz.ntmps101
  go_wp2
  go_quiet (fail)
  go_wp2
  go_ret
  exact ⟨ret_u64 e2.out, _, rfl⟩
theorem below_dr {n : Nat} {W W' : World} (h : Below n W W') (k : Nat) : Below n W (W'.drewN k) := ⟨h.os, h.tape, h.output, h.size, h.block⟩
theorem below_set {B : Nat} {a w : World} (h : Below B a w) {p : Addr} (hp : B ≤ p.block) (u : Value) : Below B a (w.setCell p u) := h.setCell hp u
theorem below_d1 {n : Nat} {W W' : World} (h : Below n W W') : Below n W W'.drew := h.drew
/-- a block of two cells -/
def Bx2 (W : World) (B : Nat) (b : M.Blk) : Prop := W.heap[B]? = some (.cells #[.int .u64 (M.nu b.1), .int .u64 (M.nu b.2)] 25 (0, 0))
theorem Bx2.lt {W : World} {B : Nat} {b : M.Blk} (h : Bx2 W B b) : B < W.heap.size := (Array.getElem?_eq_some_iff.1 h).1
theorem Bx2.facts {W : World} {B : Nat} {b : M.Blk} (h : Bx2 W B b) : W.cell? ⟨B, 0, none⟩ = some (.int .u64 (M.nu b.1)) ∧ W.cell? ⟨B, 1, none⟩ = some (.int .u64 (M.nu b.2)) ∧ W.frozen? ⟨B, 0, none⟩ = false ∧ W.frozen? ⟨B, 1, none⟩ = false := by
  have h' : W.heap[B]? = _ := h
  refine ⟨?_, ?_, ?_, ?_⟩
  · simp [World.cell?, h']
  · simp [World.cell?, h']
  · simp [World.frozen?, h']
  · simp [World.frozen?, h']
set_option maxRecDepth 100000 in
theorem Bx2.new (W : World) (b : M.Blk) : Bx2 (W.alloc (.cells #[.int .u64 (M.nu b.1), .int .u64 (M.nu b.2)] 25)) W.heap.size b := by
  show (W.heap.push _)[W.heap.size]? = _
  simp
theorem Bx2.alloc {W : World} {B : Nat} {b : M.Blk} (h : Bx2 W B b) (o : Obj) : Bx2 (W.alloc o) B b := (Below.heap_alloc _ _ _ h.lt).trans h
theorem Bx2.drewN {W : World} {B : Nat} {b : M.Blk} (h : Bx2 W B b) (n : Nat) : Bx2 (W.drewN n) B b := h
theorem Bx2.below {W W' : World} {B : Nat} {b : M.Blk} (h : Bx2 W B b) (hb : Below W.heap.size W W') : Bx2 W' B b := (hb.block B h.lt).trans h
theorem Bx2.set {W : World} {B : Nat} {b : M.Blk} (h : Bx2 W B b) (c : M.Blk) : Bx2 ((W.setCell ⟨B, 0, none⟩ (.int .u64 (M.nu c.1))).setCell ⟨B, 1, none⟩ (.int .u64 (M.nu c.2))) B c := by
  have h' : W.heap[B]? = _ := h
  unfold Bx2
  simp only [World.setCell, Array.getElem?_modify, if_true, h', Option.map_some]
  rfl
theorem Bx2.other {W : World} {B : Nat} {b : M.Blk} (h : Bx2 W B b) {p : Addr} (hp : B ≠ p.block) (v : Value) : Bx2 (W.setCell p v) B b := (Below.heap_setCell _ _ _ _ hp).trans h
theorem nu_stride (k x y : BitVec 64) : IntKind.u64.wrap (IntKind.u64.wrap (M.nu x + M.nu y) + IntKind.u64.wrap (M.nu k * 11400714819323198485)) = M.nu (x + y + k * M.cst) := by
  rw [M.nu_add, M.nu_mulc, M.nu_add]
theorem nu_unstride (k x y : BitVec 64) : IntKind.u64.wrap (IntKind.u64.wrap (M.nu x - M.nu y) - IntKind.u64.wrap (M.nu k * 11400714819323198485)) = M.nu (x - y - k * M.cst) := by
  rw [M.nu_sub, M.nu_mulc, M.nu_sub]
set_option maxRecDepth 100000 in
set_option maxHeartbeats 400000 in
theorem round_any (b : M.Blk) (k : BitVec 64) (w : World) :
    Calls Tryz.prog 108 #[blkV b, .int .u64 (M.nu k)] w fun e w' => e = .returned (blkV (M.rnd b k)) ∧ Below w.heap.size w w' := by
  obtain ⟨x, y⟩ := b
  have e1 := nu_stride k x y
  have e2 := M.nu_xor y (M.rotl (x + y + k * M.cst) 13)
  have e3 := M.nu_xor (M.rotl (x + y + k * M.cst) 13) (M.rotl (y ^^^ M.rotl (x + y + k * M.cst) 13) 29)
  have T1 := hid' trivial
  unfold blkV M.rnd
  dsimp only
  go_enter Tryz.func108, Tryz.ntmps108
  go_wp2
  go_quiet (fail)
  go_wp2_with (first | (go_at_call 109; clear T1; refine (rot13 _ _).mono ?_; rintro e w' ⟨rfl, hw⟩; subst w') | (go_at_call 109; refine (rot29 _ _).mono ?_; rintro e w' ⟨rfl, hw⟩; subst w'))
  refine bodyPost_ret (v := .agg #[.int .u64 _, .int .u64 _]) (by simp [results, Tryz.results108, go_sem]) rfl ⟨rfl, ?_⟩
  (repeat' (first | exact Below.refl _ _ | with_reducible refine below_set ?_ (by simp; try omega) _ | with_reducible refine below_one ?_ | with_reducible refine below_dr ?_ _ | with_reducible refine below_d1 ?_))
set_option maxRecDepth 100000 in
theorem xor_any (a b : M.Blk) (w : World) :
    Calls Tryz.prog 105 #[blkV a, blkV b] w fun e w' => e = .returned (blkV (M.xor a b)) ∧ Below w.heap.size w w' := by
  obtain ⟨x, y⟩ := a
  obtain ⟨p, q⟩ := b
  have e1 := M.nu_xor x p
  have e2 := M.nu_xor y q
  unfold blkV M.xor
  dsimp only
  go_enter Tryz.func105, Tryz.ntmps105
  go_wp2
  refine bodyPost_ret (v := .agg #[.int .u64 _, .int .u64 _]) (by simp [results, Tryz.results105, go_sem]) rfl ⟨rfl, ?_⟩
  (repeat' (first | exact Below.refl _ _ | with_reducible refine below_set ?_ (by simp; try omega) _ | with_reducible refine below_one ?_ | with_reducible refine below_dr ?_ _ | with_reducible refine below_d1 ?_))
set_option maxRecDepth 100000 in
theorem rxor_any (a b : M.Blk) (w : World) :
    Calls Tryz.prog 79 #[blkV a, blkV b] w fun e w' => e = .returned (blkV (M.xor a b)) ∧ Below w.heap.size w w' := by
  obtain ⟨x, y⟩ := a
  obtain ⟨p, q⟩ := b
  have e1 := M.nu_xor x p
  have e2 := M.nu_xor y q
  unfold blkV M.xor
  dsimp only
  go_enter Tryz.func79, Tryz.ntmps79
  go_wp2
  refine bodyPost_ret (v := .agg #[.int .u64 _, .int .u64 _]) (by simp [results, Tryz.results79, go_sem]) rfl ⟨rfl, ?_⟩
  (repeat' (first | exact Below.refl _ _ | with_reducible refine below_set ?_ (by simp; try omega) _ | with_reducible refine below_one ?_ | with_reducible refine below_dr ?_ _ | with_reducible refine below_d1 ?_))
set_option maxRecDepth 100000 in
set_option maxHeartbeats 400000 in
theorem rround_any (b : M.Blk) (k : BitVec 64) (w : World) :
    Calls Tryz.prog 93 #[blkV b, .int .u64 (M.nu k)] w fun e w' => e = .returned (blkV (M.rnd b k)) ∧ Below w.heap.size w w' := by
  obtain ⟨x, y⟩ := b
  have e1 := nu_stride k x y
  have e2 := M.nu_xor y (M.rotl (x + y + k * M.cst) 13)
  have e3 := M.nu_xor (M.rotl (x + y + k * M.cst) 13) (M.rotl (y ^^^ M.rotl (x + y + k * M.cst) 13) 29)
  have T1 := hid' trivial
  unfold blkV M.rnd
  dsimp only
  go_enter Tryz.func93, Tryz.ntmps93
  go_wp2_with (first | (go_at_call 101; clear T1; refine (turned13 _ _).mono ?_; rintro e w1 ⟨rfl, n1, hw1⟩; subst w1) | (go_at_call 101; refine (turned29 _ _).mono ?_; rintro e w2 ⟨rfl, n2, hw2⟩; subst w2))
  refine bodyPost_ret (v := .agg #[.int .u64 _, .int .u64 _]) (by simp [results, Tryz.results93, go_sem]) rfl ⟨rfl, ?_⟩
  (repeat' (first | exact Below.refl _ _ | with_reducible refine below_set ?_ (by simp; try omega) _ | with_reducible refine below_one ?_ | with_reducible refine below_dr ?_ _ | with_reducible refine below_d1 ?_))
end Go.Proofs.YthmiekinjfaflaaGreat
namespace Go.Proofs.YthmiekinjfaflaaGreat
open Go.RowKit
theorem nat_u64 (n : Nat) (h : n < 18446744073709551616) : Value.int .u64 (n : Int) = .int .u64 (M.nu (BitVec.ofNat 64 n)) := by rw [M.nu_nat n h]
theorem blkV_eq (b : M.Blk) : blkV b = .agg #[.int .u64 (M.nu b.1), .int .u64 (M.nu b.2)] := rfl
theorem below_set2 {w W : World} {B : Nat} (h : Below w.heap.size w W) (hB : w.heap.size ≤ B) (u v : Value) : Below w.heap.size w ((W.setCell ⟨B, 0, none⟩ u).setCell ⟨B, 1, none⟩ v) := (h.setCell hB _).setCell hB _
set_option maxRecDepth 100000 in
theorem round_at (c : M.Blk) (k : Nat) (w : World) (hk : k < 18446744073709551616) :
    Calls Tryz.prog 108 #[.agg #[.int .u64 (M.nu c.1), .int .u64 (M.nu c.2)], .int .u64 (k : Int)] w fun e w' => e = .returned (.agg #[.int .u64 (M.nu (M.rnd c (BitVec.ofNat 64 k)).1), .int .u64 (M.nu (M.rnd c (BitVec.ofNat 64 k)).2)]) ∧ Below w.heap.size w w' := by
  rw [nat_u64 k hk]; exact round_any c _ w
set_option maxRecDepth 100000 in
theorem rround_at (c : M.Blk) (k : Nat) (w : World) (hk : k < 18446744073709551616) :
    Calls Tryz.prog 93 #[.agg #[.int .u64 (M.nu c.1), .int .u64 (M.nu c.2)], .int .u64 (k : Int)] w fun e w' => e = .returned (.agg #[.int .u64 (M.nu (M.rnd c (BitVec.ofNat 64 k)).1), .int .u64 (M.nu (M.rnd c (BitVec.ofNat 64 k)).2)]) ∧ Below w.heap.size w w' := by
  rw [nat_u64 k hk]; exact rround_any c _ w
set_option maxRecDepth 100000 in
set_option maxHeartbeats 400000 in
theorem mix_any (b : M.Blk) (w : World) :
    Calls Tryz.prog 106 #[blkV b] w fun e w' => e = .returned (blkV (M.mix b)) ∧ Below w.heap.size w w' := by
  have hz : Bx2 ((w.alloc (.cells #[.int .u64 (M.nu b.1), .int .u64 (M.nu b.2)] 25)).alloc (.cells #[.int .u64 0, .int .u64 0] 25)) w.heap.size b := (Bx2.new w b).alloc _
  have hz2 : Bx2 ((w.alloc (.cells #[.int .u64 (M.nu b.1), .int .u64 (M.nu b.2)] 25)).alloc (.cells #[.int .u64 0, .int .u64 0] 25)) (w.heap.size + 1) (0#64, 0#64) := by
    have := Bx2.new (w.alloc (.cells #[.int .u64 (M.nu b.1), .int .u64 (M.nu b.2)] 25)) (0#64, 0#64)
    rwa [World.size_alloc] at this
  have HZ := hid' hz
  have HZ2 := hid' hz2
  clear hz hz2
  unfold blkV
  go_enter Tryz.func106, Tryz.ntmps106
  go_wp2
  go_loopw [4] (fun i wr => ∃ k : Nat, k ≤ 8 ∧ i = .int .u64 k ∧ Bx2 wr w.heap.size (M.mixN b k) ∧ Bx2 wr (w.heap.size + 1) (0#64, 0#64) ∧ Below w.heap.size w wr) (fun i _ => 8 - (intOf i).toNat)
  case atStart => exact ⟨0, by omega, rfl, HZ.out, HZ2.out, by (repeat' (first | exact Below.refl _ _ | with_reducible refine below_set ?_ (by simp; try omega) _ | with_reducible refine below_one ?_ | with_reducible refine below_dr ?_ _ | with_reducible refine below_d1 ?_))⟩
  case round =>
    clear HZ HZ2
    obtain ⟨k, hk, rfl, hx, hy, hb⟩ := hrel
    obtain ⟨hc0, hc1, hf0, hf1⟩ := hx.facts
    by_cases hlt : k < 8
    · skip
      go_wp2_with (first | (go_at_call 108; refine (round_at (M.mixN b k) k _ (by omega)).mono ?_; rintro e w1 ⟨rfl, hb1⟩; obtain ⟨gc0, gc1, gf0, gf1⟩ := (hx.below hb1).facts))
      go_roundw
      case rel => exact ⟨k + 1, by omega, by go_num, (hx.below hb1).set (M.rnd (M.mixN b k) (BitVec.ofNat 64 k)), ((hy.below hb1).other (by simp) _).other (by simp) _, below_set2 (below_trans hb hb1) (Nat.le_refl _) _ _⟩
      case measure => simp [intOf]; omega
    · obtain rfl : k = 8 := by omega
      obtain ⟨gc0, gc1, gf0, gf1⟩ := hy.facts
      have HX : Hid (M.nu (M.mixN b 8).1 = M.nu (M.mix b).1 ∧ M.nu (M.mixN b 8).2 = M.nu (M.mix b).2) := ⟨rfl, rfl⟩
      go_wp2
      refine bodyPost_ret (v := .agg #[.int .u64 _, .int .u64 _]) (by simp [results, Tryz.results106, go_sem, gc0, gc1]; exact ⟨rfl, rfl⟩) rfl ⟨rfl, ?_⟩
      exact below_set2 hb (by omega) _ _
set_option maxRecDepth 100000 in
set_option maxHeartbeats 400000 in
theorem rmix_any (b : M.Blk) (w : World) :
    Calls Tryz.prog 80 #[blkV b] w fun e w' => e = .returned (blkV (M.mix b)) ∧ Below w.heap.size w w' := by
  have hz : Bx2 ((w.alloc (.cells #[.int .u64 (M.nu b.1), .int .u64 (M.nu b.2)] 25)).alloc (.cells #[.int .u64 0, .int .u64 0] 25)) w.heap.size b := (Bx2.new w b).alloc _
  have hz2 : Bx2 ((w.alloc (.cells #[.int .u64 (M.nu b.1), .int .u64 (M.nu b.2)] 25)).alloc (.cells #[.int .u64 0, .int .u64 0] 25)) (w.heap.size + 1) (0#64, 0#64) := by
    have := Bx2.new (w.alloc (.cells #[.int .u64 (M.nu b.1), .int .u64 (M.nu b.2)] 25)) (0#64, 0#64)
    rwa [World.size_alloc] at this
  have HZ := hid' hz
  have HZ2 := hid' hz2
  clear hz hz2
  unfold blkV
  go_enter Tryz.func80, Tryz.ntmps80
  go_wp2
  go_loopw [4] (fun i wr => ∃ k : Nat, k ≤ 8 ∧ i = .int .i64 k ∧ Bx2 wr w.heap.size (M.mixN b k) ∧ Bx2 wr (w.heap.size + 1) (0#64, 0#64) ∧ Below w.heap.size w wr) (fun i _ => 8 - (intOf i).toNat)
  case atStart => exact ⟨0, by omega, rfl, HZ.out, HZ2.out, by (repeat' (first | exact Below.refl _ _ | with_reducible refine below_set ?_ (by simp; try omega) _ | with_reducible refine below_one ?_ | with_reducible refine below_dr ?_ _ | with_reducible refine below_d1 ?_))⟩
  case round =>
    clear HZ HZ2
    obtain ⟨k, hk, rfl, hx, hy, hb⟩ := hrel
    obtain ⟨hc0, hc1, hf0, hf1⟩ := hx.facts
    by_cases hlt : k < 8
    · skip
      go_wp2_with (first | (go_at_call 93; refine (rround_at (M.mixN b k) k _ (by omega)).mono ?_; rintro e w1 ⟨rfl, hb1⟩; obtain ⟨gc0, gc1, gf0, gf1⟩ := (hx.below hb1).facts))
      go_roundw
      case rel => exact ⟨k + 1, by omega, by go_num, (hx.below hb1).set (M.rnd (M.mixN b k) (BitVec.ofNat 64 k)), ((hy.below hb1).other (by simp) _).other (by simp) _, below_set2 (below_trans hb hb1) (Nat.le_refl _) _ _⟩
      case measure => simp [intOf]; omega
    · obtain rfl : k = 8 := by omega
      obtain ⟨gc0, gc1, gf0, gf1⟩ := hy.facts
      have HX : Hid (M.nu (M.mixN b 8).1 = M.nu (M.mix b).1 ∧ M.nu (M.mixN b 8).2 = M.nu (M.mix b).2) := ⟨rfl, rfl⟩
      go_wp2
      refine bodyPost_ret (v := .agg #[.int .u64 _, .int .u64 _]) (by simp [results, Tryz.results80, go_sem, gc0, gc1]; exact ⟨rfl, rfl⟩) rfl ⟨rfl, ?_⟩
      exact below_set2 hb (by omega) _ _
end Go.Proofs.YthmiekinjfaflaaGreat
