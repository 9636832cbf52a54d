/-
  The document's own May, Check, shut, made, own and two of layer 7, at every input. Conditions: the slice holds terms; whole numbers are such.
-/
import Derived.Test.YthmiekinjfaflaaZNX
import Derived.Test.YthmiekinjfaflaaZNZ
import Derived.Test.YthmiekinjfaflaaZR1
import Derived.Test.YthmiekinjfaflaaZSt2
import Derived.Test.YthmiekinjfaflaaZSt8
import Derived.Test.YthmiekinjfaflaaZTR
namespace Go.Proofs.Ythmiekinjfaflaa
open Go.RowKit
theorem nu0 : M.nu 0#64 = 0 := rfl
theorem blk_zero {b : M.Blk} (h1 : M.nu b.1 = 0) (h2 : M.nu b.2 = 0) : b = (0#64, 0#64) := by
  obtain ⟨x, y⟩ := b
  rw [← nu0] at h1 h2
  rw [show x = 0#64 from M.nu_inj.1 h1, show y = 0#64 from M.nu_inj.1 h2]
theorem sea_zero {q : M.Sea} (h1 : M.nu q.1.1 = 0) (h2 : M.nu q.1.2 = 0) (h3 : M.nu q.2.1 = 0) (h4 : M.nu q.2.2 = 0) : q = ((0#64, 0#64), (0#64, 0#64)) := by
  obtain ⟨x, y⟩ := q
  rw [blk_zero (b := x) h1 h2, blk_zero (b := y) h3 h4]
theorem ne_beq {x : Int} (h : ¬ x = 0) : (x == 0) = false := by simpa using h
end Go.Proofs.Ythmiekinjfaflaa
namespace Go.Proofs.Ythmiekinjfaflaa
open Go.RowKit
end Go.Proofs.Ythmiekinjfaflaa
namespace Go.Proofs.Ythmiekinjfaflaa
open Go.RowKit
def M.twoB (A : List M.Tm) (a b : M.Val) : Bool := decide (M.chkV A a = 0) && (M.mb A b && (a.1 == b.1))
theorem M.chkV_0 {A : List M.Tm} {v : M.Val} : M.chkV A v = 0 ↔ M.Ok A ∧ M.mb A v = true := by
  unfold M.chkV
  by_cases h : M.Ok A ∧ M.mb A v = true
  · rw [if_pos h]; exact ⟨fun _ => h, fun _ => rfl⟩
  · rw [if_neg h]; exact ⟨fun h' => absurd h' (by decide), fun h' => absurd h' h⟩
theorem M.chkV_1 {A : List M.Tm} {v : M.Val} (h : ¬ (M.Ok A ∧ M.mb A v = true)) : M.chkV A v = 1 := if_neg h
theorem M.twoB_iff {A : List M.Tm} {a b : M.Val} : M.twoB A a b = true ↔ M.Ok A ∧ M.Two A a b := by
  unfold M.twoB
  simp only [Bool.and_eq_true, decide_eq_true_eq, M.chkV_0, beq_iff_eq]
  exact ⟨fun h => ⟨h.1.1, h.1.2, h.2.1, h.2.2⟩, fun h => ⟨⟨h.1, h.2.1⟩, h.2.2.1, h.2.2.2⟩⟩
theorem M.mkT_bad {A : List M.Tm} {t : M.Tm} (h : ¬ M.Ok A) : M.mkT A t = (M.zV, [], 1) := by
  unfold M.mkT; rw [M.make_bad h, if_neg (by decide)]
theorem M.mkO_bad {A : List M.Tm} {v : M.Val} (h : ¬ M.Ok A) : M.mkO A v = (M.zV, [], 1) := by
  unfold M.mkO; rw [if_neg h]
theorem M.partA_bad {A : List M.Tm} {v : M.Val} {i : Int} (h : ¬ (M.Ok A ∧ M.PartOk A v i)) : M.partA A v i = (M.zV, [], 1) := by
  unfold M.partA
  by_cases hp : M.PartOk A v i
  · have hA : ¬ M.Ok A := fun hA => h ⟨hA, hp⟩
    rw [if_pos hp, M.mkT_bad hA, M.mkO_bad hA]
    by_cases hs : v.1 = true
    · rw [if_pos hs]
    · rw [if_neg hs]
  · rw [if_neg hp]
theorem M.wrapA_bad {A : List M.Tm} {k v : M.Val} (h : ¬ (M.Ok A ∧ M.WrapOk A k v)) : M.wrapA A k v = (M.zV, [], 1) := by
  unfold M.wrapA
  by_cases hp : M.WrapOk A k v
  · have hA : ¬ M.Ok A := fun hA => h ⟨hA, hp⟩
    rw [if_pos hp, M.mkT_bad hA, M.mkO_bad hA]
    by_cases hs : k.1 = true
    · rw [if_pos hs]
    · rw [if_neg hs]
  · rw [if_neg hp]
theorem ofB_eq (b : M.Blk) : ((.agg #[.bool (M.ofB b).1, .bool (M.ofB b).2.1, .int .u64 (M.nu (M.ofB b).2.2.1.1), .int .u64 (M.nu (M.ofB b).2.2.1.2), .int .u64 (M.nu (M.ofB b).2.2.2.1.1.1), .int .u64 (M.nu (M.ofB b).2.2.2.1.1.2), .int .u64 (M.nu (M.ofB b).2.2.2.1.2.1), .int .u64 (M.nu (M.ofB b).2.2.2.1.2.2), .int .i64 (M.ofB b).2.2.2.2]) : Value) = .agg #[.bool false, .bool false, .int .u64 (M.nu b.1), .int .u64 (M.nu b.2), .int .u64 0, .int .u64 0, .int .u64 0, .int .u64 0, .int .i64 0] := rfl
theorem ofS_eq (s : M.Sea) : ((.agg #[.bool (M.ofS s).1, .bool (M.ofS s).2.1, .int .u64 (M.nu (M.ofS s).2.2.1.1), .int .u64 (M.nu (M.ofS s).2.2.1.2), .int .u64 (M.nu (M.ofS s).2.2.2.1.1.1), .int .u64 (M.nu (M.ofS s).2.2.2.1.1.2), .int .u64 (M.nu (M.ofS s).2.2.2.1.2.1), .int .u64 (M.nu (M.ofS s).2.2.2.1.2.2), .int .i64 (M.ofS s).2.2.2.2]) : Value) = .agg #[.bool false, .bool true, .int .u64 0, .int .u64 0, .int .u64 (M.nu s.1.1), .int .u64 (M.nu s.1.2), .int .u64 (M.nu s.2.1), .int .u64 (M.nu s.2.2), .int .i64 0] := rfl
theorem ofT_eq (i : Int) : ((.agg #[.bool (M.ofT i).1, .bool (M.ofT i).2.1, .int .u64 (M.nu (M.ofT i).2.2.1.1), .int .u64 (M.nu (M.ofT i).2.2.1.2), .int .u64 (M.nu (M.ofT i).2.2.2.1.1.1), .int .u64 (M.nu (M.ofT i).2.2.2.1.1.2), .int .u64 (M.nu (M.ofT i).2.2.2.1.2.1), .int .u64 (M.nu (M.ofT i).2.2.2.1.2.2), .int .i64 (M.ofT i).2.2.2.2]) : Value) = .agg #[.bool true, .bool false, .int .u64 0, .int .u64 0, .int .u64 0, .int .u64 0, .int .u64 0, .int .u64 0, .int .i64 i] := rfl
end Go.Proofs.Ythmiekinjfaflaa
namespace Go.Proofs.Ythmiekinjfaflaa
open Go.RowKit
end Go.Proofs.Ythmiekinjfaflaa
namespace Go.Proofs.Ythmiekinjfaflaa
open Go.RowKit
end Go.Proofs.Ythmiekinjfaflaa
namespace Go.Proofs.Ythmiekinjfaflaa
open Go.RowKit
end Go.Proofs.Ythmiekinjfaflaa
namespace Go.Proofs.Ythmiekinjfaflaa
open Go.RowKit
end Go.Proofs.Ythmiekinjfaflaa
namespace Go.Proofs.Ythmiekinjfaflaa
open Go.RowKit
end Go.Proofs.Ythmiekinjfaflaa
namespace Go.Proofs.Ythmiekinjfaflaa
open Go.RowKit
end Go.Proofs.Ythmiekinjfaflaa
namespace Go.Proofs.Ythmiekinjfaflaa
open Go.RowKit
end Go.Proofs.Ythmiekinjfaflaa
namespace Go.Proofs.Ythmiekinjfaflaa
open Go.RowKit
theorem own_apart14 {W : World} {b b' : Nat} {e e' : TypeId} {z z' : Nat} {v v' : Value} {n n' : Nat} {xs xs' : List Value} (h : W.ownsRow b e z v n xs) (h' : W.ownsRow b' e' z' v' n' xs') (hne : e ≠ e') : v.ownBlock = none ∨ v.ownBlock ≠ v'.ownBlock := by
  rcases h.2 with ⟨rfl, _⟩ | ⟨g, cap, cur, rfl, _, hg, _⟩
  · exact .inl rfl
  · right
    intro he
    rcases h'.2 with ⟨rfl, _⟩ | ⟨g', cap', cur', rfl, _, hg', _⟩
    · cases he
    · have e1 : g = g' := by simpa [Value.ownBlock] using he
      subst e1
      rw [hg] at hg'
      simp only [Option.some.injEq, Obj.cells.injEq] at hg'
      exact hne hg'.2.1
set_option maxRecDepth 100000 in
theorem es_one (W : World) (g : Nat) (hg : g = W.heap.size) (x : M.En) (hx : elEnt.ok x) : Es (W.alloc (.cells #[.int .u64 x.1.1, .int .u64 x.1.2, .bool x.2.1, .bool x.2.2.1, .int .u64 (M.nu x.2.2.2.1.1), .int .u64 (M.nu x.2.2.2.1.2), .int .u64 (M.nu x.2.2.2.2.1.1.1), .int .u64 (M.nu x.2.2.2.2.1.1.2), .int .u64 (M.nu x.2.2.2.2.1.2.1), .int .u64 (M.nu x.2.2.2.2.1.2.2), .int .i64 x.2.2.2.2.2] 54)) (.slice (some ⟨g, 0, none⟩) 1 1) [x] := by
  subst hg
  exact Sl.of_own (base := 0) (e := 54) (n := 1) ⟨rfl, .inr ⟨W.heap.size, 1, _, rfl, Nat.zero_le _, heap_alloc_new W _, Nat.le_refl _, by unfold maxLen; omega, rfl, rfl⟩⟩ (fun z hz => by simp at hz; subst hz; exact hx)
theorem M.pm_small {h k i : Int} (h0 : 0 ≤ i) (hE : M.prsE h k i = 0) : (M.prsL h k i).length ≤ 1100 := by
  obtain ⟨q1, -, q3, q4⟩ := M.prs_length h0 hE
  have hb := M.pr_facts q3 q4
  have hm : h * (h + 1) ≤ 32 * 33 := Int.mul_le_mul q4 (by omega) (by omega) (by omega)
  have : M.pmV h k ≤ 1100 := by
    unfold M.pmV
    split
    · split
      · omega
      · split <;> omega
    · omega
  omega
/-- a value of nine cells, stored to a box -/
def set9 (W : World) (B : Nat) (x : M.Val) : World := (((((((((W.setCell ⟨B, 0, none⟩ (.bool x.1)).setCell ⟨B, 1, none⟩ (.bool x.2.1)).setCell ⟨B, 2, none⟩ (.int .u64 (M.nu x.2.2.1.1))).setCell ⟨B, 3, none⟩ (.int .u64 (M.nu x.2.2.1.2))).setCell ⟨B, 4, none⟩ (.int .u64 (M.nu x.2.2.2.1.1.1))).setCell ⟨B, 5, none⟩ (.int .u64 (M.nu x.2.2.2.1.1.2))).setCell ⟨B, 6, none⟩ (.int .u64 (M.nu x.2.2.2.1.2.1))).setCell ⟨B, 7, none⟩ (.int .u64 (M.nu x.2.2.2.1.2.2))).setCell ⟨B, 8, none⟩ (.int .i64 x.2.2.2.2))
theorem set9_box {W : World} {B : Nat} {v : M.Val} (h : Bx9 W B v) (x : M.Val) : Bx9 (set9 W B x) B x := h.set x
theorem set9_below {w W : World} {n B : Nat} (h : Below n w W) (hB : n ≤ B) (x : M.Val) : Below n w (set9 W B x) := below_set9 h hB _ _ _ _ _ _ _ _ _
theorem set9_heap (W : World) (B g : Nat) (x : M.Val) (hne : g ≠ B) : (set9 W B x).heap[g]? = W.heap[g]? := by
  have hs : ∀ (W : World) (j : Nat) (u : Value), (W.setCell ⟨B, j, none⟩ u).heap[g]? = W.heap[g]? := fun W j u => Below.heap_setCell W _ u g hne
  unfold set9
  rw [hs, hs, hs, hs, hs, hs, hs, hs, hs]
theorem set9_own {W : World} {base : Nat} {e : TypeId} {size n B : Nat} {v : Value} {xs : List Value} (h : W.ownsRow base e size v n xs) (x : M.Val) (hh : ∀ g cur t fr, W.heap[g]? = some (.cells cur t fr) → t = e → g ≠ B) : (set9 W B x).ownsRow base e size v n xs := by
  rcases h with ⟨h0, h | ⟨g, cap, cur, h1, h2, h3, h4⟩⟩
  · exact ⟨h0, .inl h⟩
  · refine ⟨h0, .inr ⟨g, cap, cur, h1, h2, ?_, h4⟩⟩
    have hne := hh g cur e _ h3 rfl
    exact (set9_heap W B g x hne).trans h3
end Go.Proofs.Ythmiekinjfaflaa
namespace Go.Proofs.Ythmiekinjfaflaa
open Go.RowKit
/-- a block of eleven cells -/
def BxE (W : World) (B : Nat) (x : M.En) : Prop := W.heap[B]? = some (.cells #[.int .u64 x.1.1, .int .u64 x.1.2, .bool x.2.1, .bool x.2.2.1, .int .u64 (M.nu x.2.2.2.1.1), .int .u64 (M.nu x.2.2.2.1.2), .int .u64 (M.nu x.2.2.2.2.1.1.1), .int .u64 (M.nu x.2.2.2.2.1.1.2), .int .u64 (M.nu x.2.2.2.2.1.2.1), .int .u64 (M.nu x.2.2.2.2.1.2.2), .int .i64 x.2.2.2.2.2] 54 (0, 0))
theorem BxE.lt {W : World} {B : Nat} {x : M.En} (h : BxE W B x) : B < W.heap.size := (Array.getElem?_eq_some_iff.1 h).1
theorem BxE.below {W W' : World} {B : Nat} {x : M.En} (h : BxE W B x) (hb : Below W.heap.size W W') : BxE W' B x := (hb.block B h.lt).trans h
set_option maxRecDepth 100000 in
theorem BxE.new (W : World) (x : M.En) : BxE (W.alloc (.cells #[.int .u64 x.1.1, .int .u64 x.1.2, .bool x.2.1, .bool x.2.2.1, .int .u64 (M.nu x.2.2.2.1.1), .int .u64 (M.nu x.2.2.2.1.2), .int .u64 (M.nu x.2.2.2.2.1.1.1), .int .u64 (M.nu x.2.2.2.2.1.1.2), .int .u64 (M.nu x.2.2.2.2.1.2.1), .int .u64 (M.nu x.2.2.2.2.1.2.2), .int .i64 x.2.2.2.2.2] 54)) W.heap.size x := by
  show (W.heap.push _)[W.heap.size]? = _
  simp
theorem BxE.cells {W : World} {B : Nat} {x : M.En} (h : BxE W B x) : W.cell? ⟨B, 0, none⟩ = some (.int .u64 x.1.1) ∧ W.cell? ⟨B, 1, none⟩ = some (.int .u64 x.1.2) ∧ W.cell? ⟨B, 2, none⟩ = some (.bool x.2.1) ∧ W.cell? ⟨B, 3, none⟩ = some (.bool x.2.2.1) ∧ W.cell? ⟨B, 4, none⟩ = some (.int .u64 (M.nu x.2.2.2.1.1)) ∧ W.cell? ⟨B, 5, none⟩ = some (.int .u64 (M.nu x.2.2.2.1.2)) ∧ W.cell? ⟨B, 6, none⟩ = some (.int .u64 (M.nu x.2.2.2.2.1.1.1)) ∧ W.cell? ⟨B, 7, none⟩ = some (.int .u64 (M.nu x.2.2.2.2.1.1.2)) ∧ W.cell? ⟨B, 8, none⟩ = some (.int .u64 (M.nu x.2.2.2.2.1.2.1)) ∧ W.cell? ⟨B, 9, none⟩ = some (.int .u64 (M.nu x.2.2.2.2.1.2.2)) ∧ W.cell? ⟨B, 10, none⟩ = some (.int .i64 x.2.2.2.2.2) := by
  have h' : W.heap[B]? = _ := h
  refine ⟨?_, ?_, ?_, ?_, ?_, ?_, ?_, ?_, ?_, ?_, ?_⟩ <;> simp [World.cell?, h']
end Go.Proofs.Ythmiekinjfaflaa
