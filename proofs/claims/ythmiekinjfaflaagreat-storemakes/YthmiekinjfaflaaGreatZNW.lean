/-
  Plain mathematics of values: which may be, what is sealed, what is made of them, and what comes of a term. No condition.
-/
import Derived.Test.YthmiekinjfaflaaGreatZB6
import Derived.Test.YthmiekinjfaflaaGreatZNT
import Derived.Test.YthmiekinjfaflaaGreatZT8
import Derived.RangeFuncNested
import Derived.RangeFuncBox
import Derived.RangeFuncLeaves
import Derived.Shelf.Abstract
import Derived.WalkKit
import Derived.OwnWalkIn
import Derived.TacticsInMore
import Derived.LoopNIn
import Derived.LoopIn
import Derived.RegionIn
import Derived.Sort.QuietIn
import Derived.Stop.RegionWithIn
import Derived.ChangeKeysEq
namespace Go.Proofs.YthmiekinjfaflaaGreat
namespace M
/-- a value: Sym, Sealed, B, S, T -/
abbrev Val := Bool × Bool × Blk × Sea × Int
def zV : Val := (false, false, (0#64, 0#64), ((0#64, 0#64), (0#64, 0#64)), 0)
def ofB (b : Blk) : Val := (false, false, b, ((0#64, 0#64), (0#64, 0#64)), 0)
def ofS (s : Sea) : Val := (false, true, (0#64, 0#64), s, 0)
def ofT (i : Int) : Val := (true, false, (0#64, 0#64), ((0#64, 0#64), (0#64, 0#64)), i)
def bare (v : Val) : Val := if v.1 = true then ofT v.2.2.2.2 else if v.2.1 = true then ofS v.2.2.2.1 else ofB v.2.2.1
/-- a value may be, beside terms -/
abbrev Mb (A : List Tm) (v : Val) : Prop := v = bare v ∧ (v.1 = true → 0 ≤ v.2.2.2.2 ∧ v.2.2.2.2 < (A.length : Int))
def mb (A : List Tm) (v : Val) : Bool := decide (Mb A v)
theorem mb_iff {A : List Tm} {v : Val} : mb A v = true ↔ Mb A v := by unfold mb; exact decide_eq_true_iff
theorem mb_not {A : List Tm} {v : Val} : mb A v = false ↔ ¬ Mb A v := by unfold mb; exact decide_eq_false_iff_not
/-- it is sealed -/
def sld (A : List Tm) (v : Val) : Bool := v.2.1 || (v.1 && decide ((at_ A v.2.2.2.2.toNat).1 = 5))
/-- what is answered: a value, terms, an error -/
abbrev Ans := Val × List Tm × Int
def mkT (A : List Tm) (t : Tm) : Ans := if makeE A t = 0 then (ofT (makeV A t), makeL A t, 0) else (zV, [], makeE A t)
def mkO (A : List Tm) (v : Val) : Ans := if Ok A then (v, A, 0) else (zV, [], 1)
def atomA (A : List Tm) (sym : Bool) (n : Int) (b : Blk) : Ans := if sym = true then mkT A (1, n, 0) else mkO A (ofB b)
abbrev PartOk (A : List Tm) (v : Val) (i : Int) : Prop := mb A v = true ∧ sld A v = false ∧ 0 ≤ i ∧ i ≤ 2
def partA (A : List Tm) (v : Val) (i : Int) : Ans := if PartOk A v i then (if v.1 = true then mkT A (2 + i, v.2.2.2.2, 0) else mkO A (ofB (partV v.2.2.1 i))) else (zV, [], 1)
abbrev Two (A : List Tm) (k v : Val) : Prop := mb A k = true ∧ mb A v = true ∧ k.1 = v.1
abbrev WrapOk (A : List Tm) (k v : Val) : Prop := Two A k v ∧ sld A k = false ∧ sld A v = false
def wrapA (A : List Tm) (k v : Val) : Ans := if WrapOk A k v then (if k.1 = true then mkT A (5, k.2.2.2.2, v.2.2.2.2) else mkO A (ofS (wrap k.2.2.1 v.2.2.1))) else (zV, [], 1)
abbrev UnOk (A : List Tm) (k w : Val) : Prop := Ok A ∧ Two A k w ∧ sld A k = false ∧ sld A w = true
def unA (A : List Tm) (k w : Val) : Val × Int :=
  if UnOk A k w then
    (if k.1 = true then (if (at_ A w.2.2.2.2.toNat).2.1 = k.2.2.2.2 then (ofT (at_ A w.2.2.2.2.toNat).2.2, 0) else (zV, 7))
    else (ofB (unV k.2.2.1 w.2.2.2.1), unE k.2.2.1 w.2.2.2.1))
  else (zV, 1)
def chkV (A : List Tm) (v : Val) : Int := if Ok A ∧ mb A v = true then 0 else 1
/-! ### what comes of a term -/
def stepE (d : Nat → Val) (T : List Blk) (t : Tm) : Val :=
  if t.1 = 1 then ofB (T[t.2.1.toNat]?.getD (0#64, 0#64))
  else if t.1 = 5 then ofS (wrap (d t.2.1.toNat).2.2.1 (d t.2.2.toNat).2.2.1)
  else ofB (partV (d t.2.1.toNat).2.2.1 (t.1 - 2))
def evT (A : List Tm) (T : List Blk) : Nat → List Val
  | 0 => []
  | n + 1 => evT A T n ++ [stepE (fun p => (evT A T n)[p]?.getD zV) T (at_ A n)]
def ev (A : List Tm) (T : List Blk) (i : Nat) : Val := (evT A T (i + 1))[i]?.getD zV
theorem evT_length (A : List Tm) (T : List Blk) : ∀ n, (evT A T n).length = n
  | 0 => rfl
  | n + 1 => by simp [evT, evT_length A T n]
theorem evT_get (A : List Tm) (T : List Blk) (p : Nat) : ∀ n, p < n → (evT A T n)[p]?.getD zV = ev A T p
  | 0, h => by omega
  | n + 1, h => by
    by_cases e : p = n
    · subst e; rfl
    · rw [evT, List.getElem?_append_left (by rw [evT_length]; omega)]
      exact evT_get A T p n (by omega)
theorem stepE_congr {d e : Nat → Val} {T : List Blk} {t : Tm} (h : ∀ p ∈ parts t, d p.toNat = e p.toNat) (hk : t.1 = 1 ∨ (t.1 = 2 ∨ t.1 = 3 ∨ t.1 = 4) ∨ t.1 = 5) : stepE d T t = stepE e T t := by
  unfold stepE
  rcases hk with h1 | h1 | h1
  · rw [if_pos h1, if_pos h1]
  · have hp : parts t = [t.2.1] := by unfold parts; rw [if_pos h1]
    rw [if_neg (by omega), if_neg (by omega), if_neg (by omega), if_neg (by omega), h t.2.1 (by rw [hp]; simp)]
  · have hp : parts t = [t.2.1, t.2.2] := by unfold parts; rw [if_neg (by omega), if_pos h1]
    rw [if_neg (by omega), if_pos h1, if_neg (by omega), if_pos h1, h t.2.1 (by rw [hp]; simp), h t.2.2 (by rw [hp]; simp)]
theorem may_kinds {t : Tm} {i : Int} (h : mayB t i = true) : t.1 = 1 ∨ (t.1 = 2 ∨ t.1 = 3 ∨ t.1 = 4) ∨ t.1 = 5 := by
  rcases may_kind h with h | h | h
  · exact .inl h.1
  · exact .inr (.inl h.1)
  · exact .inr (.inr h.1)
theorem ev_eq {A : List Tm} {T : List Blk} {i : Nat} (h : mayB (at_ A i) i = true) : ev A T i = stepE (ev A T) T (at_ A i) := by
  show (evT A T (i + 1))[i]?.getD zV = _
  rw [evT, List.getElem?_append_right (by rw [evT_length]; omega), evT_length]
  simp only [Nat.sub_self, List.getElem?_cons_zero, Option.getD_some]
  refine stepE_congr (fun p hp => evT_get A T p.toNat i ?_) (may_kinds h)
  have := parts_ahead h p hp
  omega
/-- a term is made of what is sealed -/
def usesS (A : List Tm) (t : Tm) : Bool := (parts t).any fun p => decide ((at_ A p.toNat).1 = 5)
/-- an atom without a block -/
def noBlk (n : Nat) (t : Tm) : Bool := decide (t.1 = 1) && decide ((n : Int) ≤ t.2.1)
def evalE (A : List Tm) (i : Int) (n : Nat) : Int :=
  if deepE A i = 0 then (if (withinL A i).any (fun k => usesS A (at_ A k.toNat)) = true then 1 else if (withinL A i).any (fun k => noBlk n (at_ A k.toNat)) = true then 4 else 0) else deepE A i
def evalV (A : List Tm) (i : Int) (T : List Blk) : Val := if evalE A i T.length = 0 then ev A T i.toNat else zV
end M
end Go.Proofs.YthmiekinjfaflaaGreat
namespace Go.Proofs.YthmiekinjfaflaaGreat
open Go.RowKit Go.Shelf
attribute [local go_sem] Oper.semAt_some
/-- the piece x of a slice of n octets -/
abbrev pieceV (b off n x : Nat) : Value := .slice (some ⟨b, off + 16 * x, none⟩) (min 16 (n - 16 * x)) (min 16 (n - 16 * x))
end Go.Proofs.YthmiekinjfaflaaGreat
namespace Go.Proofs.YthmiekinjfaflaaGreat
open Go.RowKit Go.Shelf
attribute [local go_sem] Oper.semAt_some
theorem bx2_own {β : Type} (B Bx : Nat) (F : β → M.Blk) : OwnFrom B (fun (s : β) W => Bx2 W Bx (F s)) := by
  intro s W W' row h hg hr
  refine (hg.block Bx h.lt (fun e => ?_)).trans h
  obtain ⟨_, o, ho, hc⟩ := hr Bx e.symm
  rw [show W.heap[Bx]? = _ from h] at ho; cases ho; cases hc
theorem Boxed.toBelow {A B : World} {k : Nat} {t : TypeId} {v : Value} (h : Boxed A k t v) (hb : Below A.heap.size A B) : Boxed B k t v := (hb.block k h.lt).trans h
theorem boxed_other {A : World} {k : Nat} {t : TypeId} {v : Value} (h : Boxed A k t v) {p : Addr} (hp : k ≠ p.block) (u : Value) : Boxed (A.setCell p u) k t v := (Below.heap_setCell _ _ _ _ hp).trans h
theorem keeps_of_below {A B : World} (hb : Below A.heap.size A B) : KeepsOthers A B := ⟨hb.size, fun k _ h _ => (hb.block k (Array.getElem?_eq_some_iff.1 h).1).trans h⟩
theorem bx2_put {W : World} {B : Nat} {b : M.Blk} (h : Bx2 W B b) (D : Nat) (o : Obj) (hD : B ≠ D) : Bx2 (W.putObj D o) B b := ((grownBy_putObj' W D o).block B h.lt (by simpa using hD)).trans h
theorem piece_bs {w W : World} {ao : Option Addr} {cap b off : Nat} {L : List Int} (hu : Bs w (.slice ao L.length cap) L) (hao : 0 < L.length → ao = some ⟨b, off, none⟩) (x : Nat) (hx : x < M.pcs L) (hb : Below w.heap.size w W) : Bs W (pieceV b off L.length x) (M.pc L x) := by
  unfold M.pcs at hx
  obtain rfl := hao (by omega)
  have hq : L.length ≤ cap := by
    obtain ⟨ao', cap', e, q1, q2, q3, q4⟩ := hu
    simp only [Value.slice.injEq] at e
    omega
  have h := (hu.below hb).part (16 * x) (16 * x + min 16 (L.length - 16 * x)) (min 16 (L.length - 16 * x)) (by omega) (by omega) (by omega) (by omega) (by omega)
  rw [show 16 * x + min 16 (L.length - 16 * x) - 16 * x = min 16 (L.length - 16 * x) by omega] at h
  have e : (L.drop (16 * x)).take (min 16 (L.length - 16 * x)) = M.pc L x := by
    unfold M.pc
    rw [show L.length - 16 * x = (L.drop (16 * x)).length by simp, ← List.take_eq_take_min]
  rw [e] at h
  exact h
end Go.Proofs.YthmiekinjfaflaaGreat
namespace Go.Proofs.YthmiekinjfaflaaGreat
open Go.RowKit
set_option maxRecDepth 100000 in
theorem Tryz.infoU64b : (Tryz.prog.info? 23).map (fun i => (i.zero, i.size, i.bytes)) = some (some (.int .u64 0), 1, 8) := by kernel_rfl
set_option maxRecDepth 100000 in
theorem Tryz.cellsU64b : Tryz.prog.cellsOf 23 = 1 := by kernel_rfl
set_option maxRecDepth 100000 in
/-- '==' of two blocks -/
theorem eqB (x y p q : Int) (w : World) : (Op.equalIn 10000 25 (.agg #[.int .u64 x, .int .u64 y]) (.agg #[.int .u64 p, .int .u64 q])).run Tryz.prog w = .ok (x == p && y == q) w := by
  obtain ⟨i0, hi, hz0, hz1, hz2⟩ := info_parts Tryz.infoU64b
  rw [run_equalIn_array w 9999 (n := 2) (e := 23) _ _ Tryz.underlying25 hi, Tryz.cellsU64b]
  simp [List.range, List.range.loop, Op.eqItems, part, go_sem]
  by_cases h1 : x = p <;> by_cases h2 : y = q <;> simp [h1, h2]
end Go.Proofs.YthmiekinjfaflaaGreat
namespace Go.Proofs.YthmiekinjfaflaaGreat
open Go.RowKit
/-- a world of a class -/
structure Cls (G : World → Prop) where
  W : World
  ok : G W
theorem quiet_below {G : World → Prop} (hG : ∀ W W', G W → Below W.heap.size W W' → G W') {P : Program} {f : FuncId} {args : Array Value} (s : Cls G) {v : Value}
    (h : Calls P f args s.W fun e w' => e = .returned v ∧ Below s.W.heap.size s.W w') : Calls P f args s.W fun e w'' => e = .returned v ∧ ∃ t : Cls G, w'' = t.W :=
  h.mono fun _ w' ⟨he, hb⟩ => ⟨he, ⟨w', hG _ _ s.ok hb⟩, rfl⟩
theorem Bx2.cells {W : World} {B : Nat} {b : M.Blk} (h : Bx2 W B b) : W.cell? ⟨B, 0, none⟩ = some (.int .u64 (M.nu b.1)) ∧ W.cell? ⟨B, 1, none⟩ = some (.int .u64 (M.nu b.2)) := ⟨h.facts.1, h.facts.2.1⟩
theorem class_of (w W : World) (bs : List (Nat × M.Blk)) (h : ∀ p ∈ bs, Bx2 W p.1 p.2) (hB : Below w.heap.size w W) : ∃ G : World → Prop, Hid (∀ X X', G X → Below X.heap.size X X' → G X') ∧ (∀ s : Cls G, ∀ p ∈ bs, Bx2 s.W p.1 p.2) ∧ Hid (∀ s : Cls G, Below w.heap.size w s.W) ∧ Hid (G { W with drawn := W.drawn + 1 }) :=
  ⟨fun X => (∀ p ∈ bs, Bx2 X p.1 p.2) ∧ Below w.heap.size w X, fun _ _ h hb => ⟨fun p hp => (h.1 p hp).below hb, below_trans h.2 hb⟩, fun s => s.ok.1, fun s => s.ok.2, ⟨h, below_d1 hB⟩⟩
theorem region_cls {G : World → Prop} {P : Program} {id : Nat} {Q : Exit → Act → World → Prop} {a : Act} {w : World} {l : List Oper} (hm : P.follows .mixedOrders = true) (hB : Region.lexB .any l.toArray = true) (hW : G { w with drawn := w.drawn + 1 })
    (h : wpQuiet P l.toArray (fun w' => ∃ s : Cls G, w' = s.W) (fun a' => ∀ w', (∃ s : Cls G, w' = s.W) → Q .normal a' w') l a) : (Code.region id l.toArray true).wp P Q a w :=
  wp_region_quiet (C := fun w' => ∃ s : Cls G, w' = s.W) hm hB ⟨⟨_, hW⟩, rfl⟩ h
theorem blk_beq (a b : M.Blk) : (M.nu a.1 == M.nu b.1 && M.nu a.2 == M.nu b.2) = decide (a = b) := by
  obtain ⟨x, y⟩ := a
  obtain ⟨p, q⟩ := b
  dsimp only
  rw [Bool.eq_iff_iff]
  simp [M.nu_inj]
theorem blk_same (a b : M.Blk) : (M.nu (M.mix a).1 == M.nu (M.mix b).1 && M.nu (M.mix a).2 == M.nu (M.mix b).2) = (M.nu a.1 == M.nu b.1 && M.nu a.2 == M.nu b.2) := by
  rw [blk_beq, blk_beq]
  simp [M.mix_inj]
end Go.Proofs.YthmiekinjfaflaaGreat
namespace Go.Proofs.YthmiekinjfaflaaGreat
open Go.RowKit
set_option maxRecDepth 100000 in
theorem mix_eq {a m : M.Blk} (h : M.mix a = m) (w : World) : Calls Tryz.prog 106 #[.agg #[.int .u64 (M.nu a.1), .int .u64 (M.nu a.2)]] w fun e w' => e = .returned (.agg #[.int .u64 (M.nu m.1), .int .u64 (M.nu m.2)]) ∧ Below w.heap.size w w' := by
  subst h; exact mix_at a w
set_option maxRecDepth 100000 in
theorem rmix_eq {a m : M.Blk} (h : M.mix a = m) (w : World) : Calls Tryz.prog 80 #[.agg #[.int .u64 (M.nu a.1), .int .u64 (M.nu a.2)]] w fun e w' => e = .returned (.agg #[.int .u64 (M.nu m.1), .int .u64 (M.nu m.2)]) ∧ Below w.heap.size w w' := by
  subst h; exact rmix_at a w
end Go.Proofs.YthmiekinjfaflaaGreat
namespace Go.Proofs.YthmiekinjfaflaaGreat
open Go.RowKit
set_option maxRecDepth 100000 in
theorem xor_eq {a b m : M.Blk} (h : M.xor a b = m) (w : World) : Calls Tryz.prog 105 #[.agg #[.int .u64 (M.nu a.1), .int .u64 (M.nu a.2)], .agg #[.int .u64 (M.nu b.1), .int .u64 (M.nu b.2)]] w fun e w' => e = .returned (.agg #[.int .u64 (M.nu m.1), .int .u64 (M.nu m.2)]) ∧ Below w.heap.size w w' := by
  subst h; exact xor_at a b w
set_option maxRecDepth 100000 in
theorem rxor_eq {a b m : M.Blk} (h : M.xor a b = m) (w : World) : Calls Tryz.prog 79 #[.agg #[.int .u64 (M.nu a.1), .int .u64 (M.nu a.2)], .agg #[.int .u64 (M.nu b.1), .int .u64 (M.nu b.2)]] w fun e w' => e = .returned (.agg #[.int .u64 (M.nu m.1), .int .u64 (M.nu m.2)]) ∧ Below w.heap.size w w' := by
  subst h; exact rxor_at a b w
set_option maxRecDepth 100000 in
theorem part_eq {a p : M.Blk} {i e : Int} (h : M.partV a i = p) (he : M.partE i = e) (w : World) : Calls Tryz.prog 99 #[.agg #[.int .u64 (M.nu a.1), .int .u64 (M.nu a.2)], .int .i64 i] w fun r w' => r = .returned (.tuple #[.agg #[.int .u64 (M.nu p.1), .int .u64 (M.nu p.2)], .int .i64 e]) ∧ Below w.heap.size w w' := by
  subst h; subst he; exact part_any a i w
set_option maxRecDepth 100000 in
theorem rpart_eq {a p : M.Blk} {i e : Int} (h : M.partV a i = p) (he : M.partE i = e) (w : World) : Calls Tryz.prog 63 #[.agg #[.int .u64 (M.nu a.1), .int .u64 (M.nu a.2)], .int .i64 i] w fun r w' => r = .returned (.tuple #[.agg #[.int .u64 (M.nu p.1), .int .u64 (M.nu p.2)], .int .i64 e]) ∧ Below w.heap.size w w' := by
  subst h; subst he; exact rpart_any a i w
end Go.Proofs.YthmiekinjfaflaaGreat
