/-
  What the program's appendText comes to: the term's text behind, as long as there is room; else more than there is room for. Conditions: each theorem's own premises; the two tables read as their texts lay them.
-/
import Derived.Test.YtkggcfkjmmijbaaDoorU7
import Derived.Test.YtkggcfkjmmijbaaDoorShelf
import Derived.Lib.AppendStr
import Derived.Lib.AppendIntMem
import Derived.ChangeBears2
namespace Go.Proofs.YtkggcfkjmmijbaaDoor
open Go.RowKit
/-- what the texts of terms begin with, as the table holds it -/
def begC : Array Value := #[.string ⟨#[]⟩, .string ⟨#[97]⟩, .string ⟨#[76, 40]⟩, .string ⟨#[82, 40]⟩, .string ⟨#[75, 40]⟩, .string ⟨#[87, 40]⟩]
/-- the two tables read as their texts lay them -/
def Tab (W : World) : Prop := Lib.TabIs Tryd.prog W "internal/strconv.uint64pow10" .u64 Lib.pow10Tab ∧ W.var? Tryd.prog "medlar/term.begins" = some begC
theorem var_below {W W' : World} {n : String} {cs : Array Value} (h : W.var? Tryd.prog n = some cs) (hb : Below W.heap.size W W') : W'.var? Tryd.prog n = some cs := by
  unfold World.var? at *
  cases hg : Tryd.prog.globalNamed n with
  | none => simp [hg] at h
  | some g =>
    simp only [hg, Option.bind_some] at h ⊢
    have hlt : g < W.heap.size := by
      rcases Nat.lt_or_ge g W.heap.size with h' | h'
      · exact h'
      · rw [Array.getElem?_eq_none h'] at h; simp at h
    rw [hb.block g hlt]
    exact h
theorem Tab.below {W W' : World} (h : Tab W) (hb : Below W.heap.size W W') : Tab W' := ⟨var_below h.1 hb, var_below h.2 hb⟩
theorem gBeg : Tryd.prog.globalNamed "medlar/term.begins" = some 0 := by kernel_rfl
theorem Tab.cell {W : World} (h : Tab W) (k : Nat) : W.cell? ⟨0, k, none⟩ = begC[k]? := World.var?_cell gBeg h.2 k
/-- what appendText stands on -/
def Env (A : List M.Tm) (v : Value) (B : Nat) (w : World) : Prop := ∀ X, Below B w X → Tab X ∧ Ts X v A
theorem Env.on {A : List M.Tm} {v : Value} {B : Nat} {w w1 : World} (h : Env A v B w) (hb : Below B w w1) : Env A v B w1 := fun X h' => h X (hb.trans h')
theorem Env.pow {A : List M.Tm} {v : Value} {B : Nat} {w : World} (h : Env A v B w) : Lib.TabBelow Tryd.prog B w "internal/strconv.uint64pow10" .u64 Lib.pow10Tab := fun X hb => (h X hb).1.1
def M.AppR (T : List UInt8) (m : Nat) (xs ys : List UInt8) : Prop := (65536 < xs.length → ys = xs) ∧ (xs.length + T.length ≤ 65536 → ys = xs ++ T) ∧ (65536 < xs.length + T.length → 65536 < ys.length) ∧ (xs.length ≤ 65536 → ys.length ≤ m)
def AppQ (T : List UInt8) (i : Nat) (xs : List UInt8) (B : Nat) (w : World) (e : Ending) (w' : World) : Prop := ∃ v' ys, e = .returned v' ∧ w'.ownsRow B 5 1 v' ys.length (Lib.byteCells ys) ∧ M.AppR T (65560 + 2 * i) xs ys ∧ Below B w w' ∧ Lib.OthersKept 5 none w w'
def AppC (A : List M.Tm) (v : Value) (B i : Nat) : Prop := ∀ (xs : List UInt8) (sv : Value) (w : World), w.ownsRow B 5 1 sv xs.length (Lib.byteCells xs) → B ≤ w.heap.size → xs.length ≤ 300000 → Env A v B w →
  Calls Tryd.prog 33 #[sv, v, .int .i64 i] w fun e w' => AppQ (M.txt A i) i xs B w e w'
theorem oth_append {B n : Nat} {v : Value} {xs : List Value} {w w' : World} (h : w.ownsRow B 5 1 v n xs) (hg : w.grownBy w' v.ownBlock) : Lib.OthersKept 5 none w w' := by
  intro k o hk _ ho
  have hlt : k < w.heap.size := (Array.getElem?_eq_some_iff.1 hk).1
  rw [hg.block k hlt ?_]
  · exact hk
  · intro e
    rcases h.2 with ⟨rfl, _⟩ | ⟨g, cap, cur, rfl, _, h3, _⟩
    · simp [Value.ownBlock] at e
    · obtain rfl : k = g := by simpa [Value.ownBlock] using e
      rw [h3] at hk
      exact ho _ _ (Option.some.inj hk).symm
theorem oth_alloc (e : TypeId) (w : World) (o : Obj) : Lib.OthersKept e none w (w.alloc o) := fun k x hk _ _ => by
  have hlt : k < w.heap.size := (Array.getElem?_eq_some_iff.1 hk).1
  exact (Below.heap_alloc _ _ _ hlt).trans hk
theorem Bx3.oth {w w' : World} {k : Nat} {s : M.Tm} (h : Bx3 w k s) (ho : Lib.OthersKept 5 none w w') : Bx3 w' k s :=
  ho k _ h (by simp) (fun c fz e => by
    have := Obj.cells.inj e
    exact absurd this.2.1 (by decide))
theorem Tryd.infoByteq : (Tryd.prog.info? 5).map (fun i => (i.zero, i.size, i.bytes)) = some (some (.int .u8 0), 1, 1) := by kernel_rfl
set_option maxRecDepth 100000 in
theorem app_long (v : Value) (B i : Nat) (T : List UInt8) (xs : List UInt8) (sv : Value) (w : World) (hown : w.ownsRow B 5 1 sv xs.length (Lib.byteCells xs)) (hx : xs.length ≤ 300000) (hl : 65536 < xs.length) :
    Calls Tryd.prog 33 #[sv, v, .int .i64 i] w fun e w' => AppQ T i xs B w e w' := by
  have HO := hidq hown
  obtain ⟨ao, cap, rfl, hs⟩ := own_formq hown
  clear hown hs
  have hli : (65536 : Int) < xs.length := by omega
  go_enter Tryd.func33, Tryd.ntmps33
  go_wp2
  go_ret
  exact ⟨_, xs, rfl, HO.out, ⟨fun _ => rfl, fun h => by omega, fun _ => hl, fun h => by omega⟩, Below.refl _ _, Lib.OthersKept.refl _ _ _⟩
end Go.Proofs.YtkggcfkjmmijbaaDoor
