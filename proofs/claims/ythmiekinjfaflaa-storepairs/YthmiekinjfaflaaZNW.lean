/-
  Plain mathematics of values: which may be, what is sealed, what is made of them, and what comes of a term. No condition.
-/
import Derived.Test.YthmiekinjfaflaaZB6
import Derived.Test.YthmiekinjfaflaaZNT
import Derived.Test.YthmiekinjfaflaaZT8
namespace Go.Proofs.Ythmiekinjfaflaa
namespace M
/-- a value: Sym, Sealed, B, S, T -/
abbrev Val := Bool × Bool × Blk × Sea × Int
def zV : Val := (false, false, (0#64, 0#64), ((0#64, 0#64), (0#64, 0#64)), 0)
def ofB (b : Blk) : Val := (false, false, b, ((0#64, 0#64), (0#64, 0#64)), 0)
def ofS (s : Sea) : Val := (false, true, (0#64, 0#64), s, 0)
def ofT (i : Int) : Val := (true, false, (0#64, 0#64), ((0#64, 0#64), (0#64, 0#64)), i)
def bare (v : Val) : Val := if v.1 = true then ofT v.2.2.2.2 else if v.2.1 = true then ofS v.2.2.2.1 else ofB v.2.2.1
/-- a value may be, beside terms -/
abbrev Mb (A : List Tm) (v : Val) : Prop := v = bare v ∧ (v.1 = true → 0 ≤ v.2.2.2.2 ∧ v.2.2.2.2 < (A.length : Int))
def mb (A : List Tm) (v : Val) : Bool := decide (Mb A v)
theorem mb_iff {A : List Tm} {v : Val} : mb A v = true ↔ Mb A v := by unfold mb; exact decide_eq_true_iff
theorem mb_not {A : List Tm} {v : Val} : mb A v = false ↔ ¬ Mb A v := by unfold mb; exact decide_eq_false_iff_not
/-- it is sealed -/
def sld (A : List Tm) (v : Val) : Bool := v.2.1 || (v.1 && decide ((at_ A v.2.2.2.2.toNat).1 = 5))
/-- what is answered: a value, terms, an error -/
abbrev Ans := Val × List Tm × Int
def mkT (A : List Tm) (t : Tm) : Ans := if makeE A t = 0 then (ofT (makeV A t), makeL A t, 0) else (zV, [], makeE A t)
def mkO (A : List Tm) (v : Val) : Ans := if Ok A then (v, A, 0) else (zV, [], 1)
def atomA (A : List Tm) (sym : Bool) (n : Int) (b : Blk) : Ans := if sym = true then mkT A (1, n, 0) else mkO A (ofB b)
abbrev PartOk (A : List Tm) (v : Val) (i : Int) : Prop := mb A v = true ∧ sld A v = false ∧ 0 ≤ i ∧ i ≤ 2
def partA (A : List Tm) (v : Val) (i : Int) : Ans := if PartOk A v i then (if v.1 = true then mkT A (2 + i, v.2.2.2.2, 0) else mkO A (ofB (partV v.2.2.1 i))) else (zV, [], 1)
abbrev Two (A : List Tm) (k v : Val) : Prop := mb A k = true ∧ mb A v = true ∧ k.1 = v.1
abbrev WrapOk (A : List Tm) (k v : Val) : Prop := Two A k v ∧ sld A k = false ∧ sld A v = false
def wrapA (A : List Tm) (k v : Val) : Ans := if WrapOk A k v then (if k.1 = true then mkT A (5, k.2.2.2.2, v.2.2.2.2) else mkO A (ofS (wrap k.2.2.1 v.2.2.1))) else (zV, [], 1)
abbrev UnOk (A : List Tm) (k w : Val) : Prop := Ok A ∧ Two A k w ∧ sld A k = false ∧ sld A w = true
def unA (A : List Tm) (k w : Val) : Val × Int :=
  if UnOk A k w then
    (if k.1 = true then (if (at_ A w.2.2.2.2.toNat).2.1 = k.2.2.2.2 then (ofT (at_ A w.2.2.2.2.toNat).2.2, 0) else (zV, 7))
    else (ofB (unV k.2.2.1 w.2.2.2.1), unE k.2.2.1 w.2.2.2.1))
  else (zV, 1)
def chkV (A : List Tm) (v : Val) : Int := if Ok A ∧ mb A v = true then 0 else 1
/-! ### what comes of a term -/
def stepE (d : Nat → Val) (T : List Blk) (t : Tm) : Val :=
  if t.1 = 1 then ofB (T[t.2.1.toNat]?.getD (0#64, 0#64))
  else if t.1 = 5 then ofS (wrap (d t.2.1.toNat).2.2.1 (d t.2.2.toNat).2.2.1)
  else ofB (partV (d t.2.1.toNat).2.2.1 (t.1 - 2))
def evT (A : List Tm) (T : List Blk) : Nat → List Val
  | 0 => []
  | n + 1 => evT A T n ++ [stepE (fun p => (evT A T n)[p]?.getD zV) T (at_ A n)]
def ev (A : List Tm) (T : List Blk) (i : Nat) : Val := (evT A T (i + 1))[i]?.getD zV
theorem evT_length (A : List Tm) (T : List Blk) : ∀ n, (evT A T n).length = n
  | 0 => rfl
  | n + 1 => by simp [evT, evT_length A T n]
theorem evT_get (A : List Tm) (T : List Blk) (p : Nat) : ∀ n, p < n → (evT A T n)[p]?.getD zV = ev A T p
  | 0, h => by omega
  | n + 1, h => by
    by_cases e : p = n
    · subst e; rfl
    · rw [evT, List.getElem?_append_left (by rw [evT_length]; omega)]
      exact evT_get A T p n (by omega)
theorem stepE_congr {d e : Nat → Val} {T : List Blk} {t : Tm} (h : ∀ p ∈ parts t, d p.toNat = e p.toNat) (hk : t.1 = 1 ∨ (t.1 = 2 ∨ t.1 = 3 ∨ t.1 = 4) ∨ t.1 = 5) : stepE d T t = stepE e T t := by
  unfold stepE
  rcases hk with h1 | h1 | h1
  · rw [if_pos h1, if_pos h1]
  · have hp : parts t = [t.2.1] := by unfold parts; rw [if_pos h1]
    rw [if_neg (by omega), if_neg (by omega), if_neg (by omega), if_neg (by omega), h t.2.1 (by rw [hp]; simp)]
  · have hp : parts t = [t.2.1, t.2.2] := by unfold parts; rw [if_neg (by omega), if_pos h1]
    rw [if_neg (by omega), if_pos h1, if_neg (by omega), if_pos h1, h t.2.1 (by rw [hp]; simp), h t.2.2 (by rw [hp]; simp)]
theorem may_kinds {t : Tm} {i : Int} (h : mayB t i = true) : t.1 = 1 ∨ (t.1 = 2 ∨ t.1 = 3 ∨ t.1 = 4) ∨ t.1 = 5 := by
  rcases may_kind h with h | h | h
  · exact .inl h.1
  · exact .inr (.inl h.1)
  · exact .inr (.inr h.1)
theorem ev_eq {A : List Tm} {T : List Blk} {i : Nat} (h : mayB (at_ A i) i = true) : ev A T i = stepE (ev A T) T (at_ A i) := by
  show (evT A T (i + 1))[i]?.getD zV = _
  rw [evT, List.getElem?_append_right (by rw [evT_length]; omega), evT_length]
  simp only [Nat.sub_self, List.getElem?_cons_zero, Option.getD_some]
  refine stepE_congr (fun p hp => evT_get A T p.toNat i ?_) (may_kinds h)
  have := parts_ahead h p hp
  omega
/-- a term is made of what is sealed -/
def usesS (A : List Tm) (t : Tm) : Bool := (parts t).any fun p => decide ((at_ A p.toNat).1 = 5)
/-- an atom without a block -/
def noBlk (n : Nat) (t : Tm) : Bool := decide (t.1 = 1) && decide ((n : Int) ≤ t.2.1)
def evalE (A : List Tm) (i : Int) (n : Nat) : Int :=
  if deepE A i = 0 then (if (withinL A i).any (fun k => usesS A (at_ A k.toNat)) = true then 1 else if (withinL A i).any (fun k => noBlk n (at_ A k.toNat)) = true then 4 else 0) else deepE A i
def evalV (A : List Tm) (i : Int) (T : List Blk) : Val := if evalE A i T.length = 0 then ev A T i.toNat else zV
end M
end Go.Proofs.Ythmiekinjfaflaa
