/-
  Plain mathematics of terms: which may be, where one is, what is made, how deep one is, what it is made of, and its text; two terms of a list have one text just if they are one. No condition.
-/
import Derived.Lib.ItoaNum
import Derived.Lib.ItoaLen
namespace Go.Proofs.YthmiekinjfaflaaGreat
namespace M
/-- a term: its kind, A, B -/
abbrev Tm := Int × Int × Int
def ahd (p i : Int) : Bool := decide (0 ≤ p) && decide (p < i)
def mayB (t : Tm) (i : Int) : Bool :=
  if t.1 = 1 then (decide (0 ≤ t.2.1) && decide (t.2.1 ≤ 1048576)) && decide (t.2.2 = 0)
  else if t.1 = 2 ∨ t.1 = 3 ∨ t.1 = 4 then ahd t.2.1 i && decide (t.2.2 = 0)
  else if t.1 = 5 then ahd t.2.1 i && ahd t.2.2 i else false
def plc (t : Tm) : List Tm → Option Nat
  | [] => none
  | x :: l => if x = t then some 0 else (plc t l).map (· + 1)
def plcI (l : List Tm) (t : Tm) : Int := match plc t l with | some i => i | none => -1
/-- the term at place i -/
def at_ (l : List Tm) (i : Nat) : Tm := l[i]?.getD (0, 0, 0)
abbrev okAt (l : List Tm) (i : Nat) : Prop := mayB (at_ l i) i = true ∧ plc (at_ l i) (l.take i) = none
/-- terms may be -/
abbrev Ok (l : List Tm) : Prop := l.length ≤ 65536 ∧ ∀ i, i < l.length → okAt l i
def chkE (l : List Tm) : Int := if Ok l then 0 else 1
def findE (l : List Tm) (t : Tm) : Int := if Ok l ∧ mayB t l.length = true then (if plc t l = none then 4 else 0) else 1
def findV (l : List Tm) (t : Tm) : Int := if findE l t = 0 then plcI l t else 0
def makeE (l : List Tm) (t : Tm) : Int := if findE l t = 4 then (if l.length = 65536 then 6 else 0) else findE l t
def makeV (l : List Tm) (t : Tm) : Int := if findE l t = 0 then plcI l t else if makeE l t = 0 then l.length else 0
def makeL (l : List Tm) (t : Tm) : List Tm := if findE l t = 0 then l else if makeE l t = 0 then l ++ [t] else []

theorem plc_lt {t : Tm} : ∀ {l : List Tm} {i : Nat}, plc t l = some i → i < l.length ∧ at_ l i = t ∧ ∀ j, j < i → at_ l j ≠ t
  | [], i, h => by simp [plc] at h
  | x :: l, i, h => by
    unfold plc at h
    by_cases hx : x = t
    · rw [if_pos hx] at h
      obtain rfl := (Option.some.inj h).symm
      exact ⟨by simp, by simp [at_, hx], fun j hj => absurd hj (by omega)⟩
    · rw [if_neg hx] at h
      obtain ⟨k, hk, rfl⟩ := Option.map_eq_some_iff.1 h
      obtain ⟨h1, h2, h3⟩ := plc_lt hk
      refine ⟨by simp; omega, by simpa [at_] using h2, fun j hj => ?_⟩
      cases j with
      | zero => simpa [at_] using hx
      | succ j => simpa [at_] using h3 j (by omega)
theorem plc_none {t : Tm} : ∀ {l : List Tm}, plc t l = none ↔ t ∉ l
  | [] => by simp [plc]
  | x :: l => by
    unfold plc
    by_cases hx : x = t
    · simp [hx]
    · have : ¬ t = x := fun e => hx e.symm
      simp [hx, this, plc_none (l := l)]
theorem plcI_none {t : Tm} {l : List Tm} (h : plc t l = none) : plcI l t = -1 := by unfold plcI; rw [h]
theorem plcI_some {t : Tm} {l : List Tm} {i : Nat} (h : plc t l = some i) : plcI l t = i := by unfold plcI; rw [h]
theorem plcI_neg {t : Tm} {l : List Tm} : plcI l t < 0 ↔ plc t l = none := by
  cases h : plc t l with
  | none => rw [plcI_none h]; simp
  | some i => rw [plcI_some h]; simp
theorem at_mem {l : List Tm} {i : Nat} (h : i < l.length) : at_ l i ∈ l := by simp [at_, h]
theorem at_take {l : List Tm} {i j : Nat} (h : i < j) : at_ (l.take j) i = at_ l i := by
  unfold at_; rw [List.getElem?_take, if_pos h]
theorem at_append {l m : List Tm} {i : Nat} (h : i < l.length) : at_ (l ++ m) i = at_ l i := by
  unfold at_; rw [List.getElem?_append_left h]
theorem at_last {l : List Tm} {t : Tm} : at_ (l ++ [t]) l.length = t := by simp [at_]
/-- no two of them are one -/
theorem Ok.inj {l : List Tm} (h : Ok l) {i k : Nat} (hi : i < l.length) (hk : k < l.length) (e : at_ l i = at_ l k) : i = k := by
  have key : ∀ i k, i < k → k < l.length → at_ l i ≠ at_ l k := fun i k hik hk e => by
    have := plc_none.1 (h.2 k hk).2
    rw [← e] at this
    apply this
    rw [← at_take hik]
    exact at_mem (by rw [List.length_take]; omega)
  rcases Nat.lt_trichotomy i k with h1 | h1 | h1
  · exact absurd e (key i k h1 hk)
  · exact h1
  · exact absurd e.symm (key k i h1 hi)
theorem Ok.take {l : List Tm} (h : Ok l) (n : Nat) : Ok (l.take n) := by
  refine ⟨by have := h.1; rw [List.length_take]; omega, fun i hi => ?_⟩
  rw [List.length_take] at hi
  obtain ⟨h1, h2⟩ := h.2 i (by omega)
  unfold okAt
  rw [at_take (by omega), List.take_take, Nat.min_eq_left (by omega)]
  exact ⟨h1, h2⟩
theorem Ok.more {l : List Tm} (h : Ok l) {t : Tm} (hm : mayB t l.length = true) (hn : plc t l = none) (hl : ¬ l.length = 65536) : Ok (l ++ [t]) := by
  refine ⟨by have := h.1; simp; omega, fun i hi => ?_⟩
  simp at hi
  by_cases e : i < l.length
  · obtain ⟨h1, h2⟩ := h.2 i e
    unfold okAt
    rw [at_append e, List.take_append_of_le_length (by omega)]
    exact ⟨h1, h2⟩
  · obtain rfl : i = l.length := by omega
    unfold okAt
    rw [at_last, List.take_left' rfl]
    exact ⟨hm, hn⟩
theorem Ok.place {l : List Tm} (h : Ok l) {i : Nat} (hi : i < l.length) : plc (at_ l i) l = some i := by
  cases hp : plc (at_ l i) l with
  | none => exact absurd (at_mem hi) (plc_none.1 hp)
  | some k =>
    obtain ⟨h1, h2, _⟩ := plc_lt hp
    rw [h.inj h1 hi h2]
theorem plc_append {t : Tm} : ∀ {l m : List Tm} {i : Nat}, plc t l = some i → plc t (l ++ m) = some i
  | [], m, i, h => by simp [plc] at h
  | x :: l, m, i, h => by
    rw [List.cons_append]
    unfold plc at h ⊢
    by_cases hx : x = t
    · rw [if_pos hx] at h ⊢; exact h
    · rw [if_neg hx] at h ⊢
      obtain ⟨k, hk, rfl⟩ := Option.map_eq_some_iff.1 h
      rw [plc_append hk]; rfl
/-- what a term is made of -/
def parts (t : Tm) : List Int := if t.1 = 2 ∨ t.1 = 3 ∨ t.1 = 4 then [t.2.1] else if t.1 = 5 then [t.2.1, t.2.2] else []
theorem ahd_iff {p i : Int} : ahd p i = true ↔ 0 ≤ p ∧ p < i := by simp [ahd]
theorem parts_ahead {t : Tm} {i : Int} (h : mayB t i = true) : ∀ p ∈ parts t, 0 ≤ p ∧ p < i := by
  unfold parts
  unfold mayB at h
  by_cases h1 : t.1 = 1
  · rw [if_neg (by omega), if_neg (by omega)]; simp
  · rw [if_neg h1] at h
    by_cases h2 : t.1 = 2 ∨ t.1 = 3 ∨ t.1 = 4
    · rw [if_pos h2] at h ⊢
      simp [ahd_iff] at h
      simpa using h.1
    · rw [if_neg h2] at h ⊢
      by_cases h5 : t.1 = 5
      · rw [if_pos h5] at h ⊢
        simp [ahd_iff] at h
        simpa using h
      · rw [if_neg h5] at h; cases h
theorem may_kind {t : Tm} {i : Int} (h : mayB t i = true) : (t.1 = 1 ∧ 0 ≤ t.2.1 ∧ t.2.1 ≤ 1048576 ∧ t.2.2 = 0) ∨ ((t.1 = 2 ∨ t.1 = 3 ∨ t.1 = 4) ∧ 0 ≤ t.2.1 ∧ t.2.1 < i ∧ t.2.2 = 0) ∨ (t.1 = 5 ∧ 0 ≤ t.2.1 ∧ t.2.1 < i ∧ 0 ≤ t.2.2 ∧ t.2.2 < i) := by
  unfold mayB at h
  by_cases h1 : t.1 = 1
  · rw [if_pos h1] at h
    simp at h
    exact .inl ⟨h1, h.1.1, h.1.2, h.2⟩
  · rw [if_neg h1] at h
    by_cases h2 : t.1 = 2 ∨ t.1 = 3 ∨ t.1 = 4
    · rw [if_pos h2] at h
      simp [ahd_iff] at h
      exact .inr (.inl ⟨h2, h.1.1, h.1.2, h.2⟩)
    · rw [if_neg h2] at h
      by_cases h5 : t.1 = 5
      · rw [if_pos h5] at h
        simp [ahd_iff] at h
        exact .inr (.inr ⟨h5, h.1.1, h.1.2, h.2.1, h.2.2⟩)
      · rw [if_neg h5] at h; cases h
/-! ### depth -/
def stepD (d : Nat → Int) (t : Tm) : Int := (parts t).foldl (fun m p => max m (d p.toNat + 1)) 0
def deepT (l : List Tm) : Nat → List Int
  | 0 => []
  | n + 1 => deepT l n ++ [stepD (fun p => (deepT l n)[p]?.getD 0) (at_ l n)]
def deepV (l : List Tm) (i : Nat) : Int := (deepT l (i + 1))[i]?.getD 0
theorem deepT_length (l : List Tm) : ∀ n, (deepT l n).length = n
  | 0 => rfl
  | n + 1 => by simp [deepT, deepT_length l n]
theorem deepT_get (l : List Tm) (p : Nat) : ∀ n, p < n → (deepT l n)[p]?.getD 0 = deepV l p
  | 0, h => by omega
  | n + 1, h => by
    by_cases e : p = n
    · subst e; rfl
    · rw [deepT, List.getElem?_append_left (by rw [deepT_length]; omega)]
      exact deepT_get l p n (by omega)
theorem foldl_congr {α β : Type} {f g : β → α → β} : ∀ (L : List α) (b : β), (∀ b x, x ∈ L → f b x = g b x) → L.foldl f b = L.foldl g b
  | [], _, _ => rfl
  | x :: L, b, h => by
    rw [List.foldl_cons, List.foldl_cons, h b x (by simp)]
    exact foldl_congr L _ (fun b y hy => h b y (by simp [hy]))
theorem deepV_eq {l : List Tm} (i : Nat) (h : ∀ p ∈ parts (at_ l i), 0 ≤ p ∧ p < (i : Int)) : deepV l i = stepD (deepV l) (at_ l i) := by
  unfold deepV
  rw [deepT, List.getElem?_append_right (by rw [deepT_length]; omega), deepT_length]
  simp only [Nat.sub_self, List.getElem?_cons_zero, Option.getD_some]
  unfold stepD
  refine foldl_congr _ _ fun b p hp => ?_
  exact congrArg (fun z => max b (z + 1)) (deepT_get l p.toNat i (by have := h p hp; omega))
/-! ### texts -/
def head_ (k : Int) : List UInt8 := if k = 2 then [76, 40] else if k = 3 then [82, 40] else if k = 4 then [75, 40] else [87, 40]
def render (s : Nat → List UInt8) (t : Tm) : List UInt8 :=
  if t.1 = 1 then 97 :: Lib.decDigits t.2.1.toNat
  else head_ t.1 ++ s t.2.1.toNat ++ (if t.1 = 5 then 44 :: s t.2.2.toNat else []) ++ [41]
def txtT (l : List Tm) : Nat → List (List UInt8)
  | 0 => []
  | n + 1 => txtT l n ++ [render (fun p => (txtT l n)[p]?.getD []) (at_ l n)]
def txt (l : List Tm) (i : Nat) : List UInt8 := (txtT l (i + 1))[i]?.getD []
theorem txtT_length (l : List Tm) : ∀ n, (txtT l n).length = n
  | 0 => rfl
  | n + 1 => by simp [txtT, txtT_length l n]
theorem txtT_get (l : List Tm) (p : Nat) : ∀ n, p < n → (txtT l n)[p]?.getD [] = txt l p
  | 0, h => by omega
  | n + 1, h => by
    by_cases e : p = n
    · subst e; rfl
    · rw [txtT, List.getElem?_append_left (by rw [txtT_length]; omega)]
      exact txtT_get l p n (by omega)
theorem txt_eq {l : List Tm} (i : Nat) (h : mayB (at_ l i) i = true) : txt l i = render (txt l) (at_ l i) := by
  unfold txt
  rw [txtT, List.getElem?_append_right (by rw [txtT_length]; omega), txtT_length]
  simp only [Nat.sub_self, List.getElem?_cons_zero, Option.getD_some]
  have hk := may_kind h
  unfold render
  by_cases h1 : (at_ l i).1 = 1
  · rw [if_pos h1, if_pos h1]
  · rw [if_neg h1, if_neg h1]
    have e1 : (txtT l i)[(at_ l i).2.1.toNat]?.getD [] = txt l (at_ l i).2.1.toNat := txtT_get l _ i (by omega)
    by_cases h5 : (at_ l i).1 = 5
    · have e2 : (txtT l i)[(at_ l i).2.2.toNat]?.getD [] = txt l (at_ l i).2.2.toNat := txtT_get l _ i (by omega)
      rw [if_pos h5, if_pos h5]
      have e3 : ∀ a b c d : List UInt8, a = c → b = d → head_ (at_ l i).1 ++ a ++ 44 :: b ++ [41] = head_ (at_ l i).1 ++ c ++ 44 :: d ++ [41] := fun a b c d h h' => by rw [h, h']
      exact e3 _ _ _ _ e1 e2
    · rw [if_neg h5, if_neg h5]
      exact congrArg (fun a => head_ (at_ l i).1 ++ a ++ [] ++ [41]) e1
theorem txt_atom {l : List Tm} {i : Nat} (h : mayB (at_ l i) i = true) (h1 : (at_ l i).1 = 1) : txt l i = 97 :: Lib.decDigits (at_ l i).2.1.toNat := by
  rw [txt_eq i h, render, if_pos h1]
theorem txt_one {l : List Tm} {i : Nat} (h : mayB (at_ l i) i = true) (h1 : ¬ (at_ l i).1 = 1) (h5 : ¬ (at_ l i).1 = 5) : txt l i = head_ (at_ l i).1 ++ txt l (at_ l i).2.1.toNat ++ [41] := by
  rw [txt_eq i h, render, if_neg h1, if_neg h5, List.append_nil]
theorem txt_two {l : List Tm} {i : Nat} (h : mayB (at_ l i) i = true) (h5 : (at_ l i).1 = 5) : txt l i = [87, 40] ++ txt l (at_ l i).2.1.toNat ++ 44 :: txt l (at_ l i).2.2.toNat ++ [41] := by
  rw [txt_eq i h, render, if_neg (by omega), if_pos h5, h5]
  rfl
/-! ### one text, one term -/
def isDig (c : UInt8) : Bool := decide (48 ≤ c) && decide (c ≤ 57)
theorem dig_ofNat (d : Nat) (h : d < 10) : isDig (UInt8.ofNat (48 + d)) = true := by
  have : ∀ d : Fin 10, isDig (UInt8.ofNat (48 + d.val)) = true := by decide +kernel
  exact this ⟨d, h⟩
theorem ofNat_inj (d e : Nat) (h : d < 10) (h' : e < 10) (he : UInt8.ofNat (48 + d) = UInt8.ofNat (48 + e)) : d = e := by
  have : ∀ d e : Fin 10, UInt8.ofNat (48 + d.val) = UInt8.ofNat (48 + e.val) → d.val = e.val := by decide +kernel
  exact this ⟨d, h⟩ ⟨e, h'⟩ he
theorem dec_big {u : Nat} (h : ¬ u < 10) : Lib.decDigits u = Lib.decDigits (u / 10) ++ [UInt8.ofNat (48 + u % 10)] := by
  rw [Lib.decDigits, dif_neg h]
theorem dec_dig (u : Nat) : ∀ c ∈ Lib.decDigits u, isDig c = true := by
  induction u using Nat.strongRecOn with
  | _ u ih =>
    by_cases h : u < 10
    · rw [Lib.decDigits_one h]
      intro c hc
      rw [List.mem_singleton] at hc
      subst hc; exact dig_ofNat u h
    · rw [dec_big h]
      intro c hc
      rcases List.mem_append.1 hc with hc | hc
      · exact ih (u / 10) (by omega) c hc
      · rw [List.mem_singleton] at hc
        subst hc; exact dig_ofNat _ (by omega)
theorem dec_pos (u : Nat) : 0 < (Lib.decDigits u).length := by rw [Lib.decDigits_length]; exact Lib.nDigits_pos u
theorem dec_inj (u v : Nat) (h : Lib.decDigits u = Lib.decDigits v) : u = v := by
  induction u using Nat.strongRecOn generalizing v with
  | _ u ih =>
    by_cases h1 : u < 10
    · by_cases h2 : v < 10
      · rw [Lib.decDigits_one h1, Lib.decDigits_one h2] at h
        exact ofNat_inj u v h1 h2 (List.cons.inj h).1
      · rw [Lib.decDigits_one h1, dec_big h2] at h
        have h3 := congrArg List.length h
        have h4 := dec_pos (v / 10)
        rw [List.length_append, List.length_singleton, List.length_singleton] at h3
        omega
    · by_cases h2 : v < 10
      · rw [Lib.decDigits_one h2, dec_big h1] at h
        have h3 := congrArg List.length h
        have h4 := dec_pos (u / 10)
        rw [List.length_append, List.length_singleton, List.length_singleton] at h3
        omega
      · rw [dec_big h1, dec_big h2] at h
        obtain ⟨e1, e2⟩ := List.append_inj' h rfl
        have := ih (u / 10) (by omega) (v / 10) e1
        have := ofNat_inj (u % 10) (v % 10) (by omega) (by omega) (List.cons.inj e2).1
        omega
/-- what is behind a text: nothing, or no digit -/
def Stop_ (x : List UInt8) : Prop := ∀ c y, x = c :: y → isDig c = false
theorem dec_front {u v : Nat} {x y : List UInt8} (hx : Stop_ x) (hy : Stop_ y) (h : Lib.decDigits u ++ x = Lib.decDigits v ++ y) : u = v ∧ x = y := by
  have key : ∀ (a b x y : List UInt8), (∀ c ∈ a, isDig c = true) → (∀ c ∈ b, isDig c = true) → Stop_ x → Stop_ y → a ++ x = b ++ y → a = b ∧ x = y := by
    intro a
    induction a with
    | nil =>
      intro b x y _ hb hx _ h
      cases b with
      | nil => exact ⟨rfl, h⟩
      | cons c b =>
        have := hx c (b ++ y) h
        rw [hb c (by simp)] at this; cases this
    | cons c a ih =>
      intro b x y ha hb hx hy h
      cases b with
      | nil =>
        have := hy c (a ++ x) h.symm
        rw [ha c (by simp)] at this; cases this
      | cons d b =>
        simp at h
        obtain ⟨rfl, h⟩ := h
        obtain ⟨e1, e2⟩ := ih b x y (fun c hc => ha c (by simp [hc])) (fun c hc => hb c (by simp [hc])) hx hy h
        exact ⟨by rw [e1], e2⟩
  obtain ⟨e1, e2⟩ := key _ _ x y (dec_dig u) (dec_dig v) hx hy h
  exact ⟨dec_inj u v e1, e2⟩
theorem stop_cons {c : UInt8} {x : List UInt8} (h : isDig c = false) : Stop_ (c :: x) := fun d y e => by cases e; exact h
theorem tm_ext {s t : Tm} (h1 : s.1 = t.1) (h2 : s.2.1 = t.2.1) (h3 : s.2.2 = t.2.2) : s = t := by
  obtain ⟨a, b, c⟩ := s; obtain ⟨d, e, f⟩ := t
  simp at h1 h2 h3; simp [h1, h2, h3]
theorem head_inj {a b : Int} (ha : a = 2 ∨ a = 3 ∨ a = 4) (hb : b = 2 ∨ b = 3 ∨ b = 4) {x y : List UInt8} (h : head_ a ++ x = head_ b ++ y) : a = b ∧ x = y := by
  rcases ha with rfl | rfl | rfl <;> rcases hb with rfl | rfl | rfl <;> simp [head_] at h <;> exact ⟨rfl, h⟩
theorem txt_front {l : List Tm} (hl : Ok l) : ∀ (n i k : Nat), i < n → i < l.length → k < l.length → ∀ x y, Stop_ x → Stop_ y → txt l i ++ x = txt l k ++ y → i = k ∧ x = y := by
  intro n
  induction n with
  | zero => intro i k h; omega
  | succ n ih =>
    intro i k hin hi hk x y hx hy h
    have mi := (hl.2 i hi).1
    have mk := (hl.2 k hk).1
    have done : at_ l i = at_ l k → x = y → i = k ∧ x = y := fun e1 e2 => ⟨hl.inj hi hk e1, e2⟩
    rcases may_kind mi with ⟨i1, i2, i3, i4⟩ | ⟨i1, i2, i3, i4⟩ | ⟨i1, i2, i3, i4, i5⟩
    · rw [txt_atom mi i1] at h
      rcases may_kind mk with ⟨k1, k2, k3, k4⟩ | ⟨k1, k2, k3, k4⟩ | ⟨k1, k2, k3, k4, k5⟩
      · rw [txt_atom mk k1] at h
        simp only [List.cons_append, List.cons.injEq, true_and] at h
        obtain ⟨e1, e2⟩ := dec_front hx hy h
        exact done (tm_ext (by omega) (by omega) (by omega)) e2
      · rw [txt_one mk (by omega) (by omega)] at h
        rcases k1 with k1 | k1 | k1 <;> rw [k1] at h <;> simp [head_] at h
      · rw [txt_two mk k1] at h
        simp at h
    · rw [txt_one mi (by omega) (by omega)] at h
      rcases may_kind mk with ⟨k1, k2, k3, k4⟩ | ⟨k1, k2, k3, k4⟩ | ⟨k1, k2, k3, k4, k5⟩
      · rw [txt_atom mk k1] at h
        rcases i1 with i1 | i1 | i1 <;> rw [i1] at h <;> simp [head_] at h
      · rw [txt_one mk (by omega) (by omega)] at h
        simp only [List.append_assoc] at h
        obtain ⟨e0, h⟩ := head_inj i1 k1 h
        obtain ⟨e1, e2⟩ := ih _ _ (by omega) (by omega) (by omega) _ _ (stop_cons (by decide)) (stop_cons (by decide)) h
        exact done (tm_ext e0 (by omega) (by omega)) (by simpa using e2)
      · rw [txt_two mk k1] at h
        rcases i1 with i1 | i1 | i1 <;> rw [i1] at h <;> simp [head_] at h
    · rw [txt_two mi i1] at h
      rcases may_kind mk with ⟨k1, k2, k3, k4⟩ | ⟨k1, k2, k3, k4⟩ | ⟨k1, k2, k3, k4, k5⟩
      · rw [txt_atom mk k1] at h
        simp at h
      · rw [txt_one mk (by omega) (by omega)] at h
        rcases k1 with k1 | k1 | k1 <;> rw [k1] at h <;> simp [head_] at h
      · rw [txt_two mk k1] at h
        simp only [List.append_assoc, List.cons_append, List.nil_append, List.cons.injEq, true_and] at h
        obtain ⟨e1, e2⟩ := ih _ _ (by omega) (by omega) (by omega) _ _ (stop_cons (by decide)) (stop_cons (by decide)) h
        simp only [List.cons.injEq, true_and] at e2
        obtain ⟨e3, e4⟩ := ih _ _ (by omega) (by omega) (by omega) _ _ (stop_cons (by decide)) (stop_cons (by decide)) e2
        exact done (tm_ext (by omega) (by omega) (by omega)) (by simpa using e4)
theorem txt_inj {l : List Tm} (hl : Ok l) {i k : Nat} (hi : i < l.length) (hk : k < l.length) : txt l i = txt l k ↔ i = k := by
  constructor
  · intro h
    exact (txt_front hl (i + 1) i k (by omega) hi hk [] [] (fun _ _ e => by cases e) (fun _ _ e => by cases e) (by rw [h])).1
  · rintro rfl; rfl
end M
end Go.Proofs.YthmiekinjfaflaaGreat
namespace Go.Proofs.YthmiekinjfaflaaGreat
namespace M
theorem may_mono {t : Tm} {i j : Int} (h : mayB t i = true) (hij : i ≤ j) : mayB t j = true := by
  rcases may_kind h with ⟨h1, h2, h3, h4⟩ | ⟨h1, h2, h3, h4⟩ | ⟨h1, h2, h3, h4, h5⟩
  · unfold mayB; rw [if_pos h1]; simp [h2, h3, h4]
  · unfold mayB; rw [if_neg (by omega), if_pos h1]; simp [ahd_iff, h2, h4]; omega
  · unfold mayB; rw [if_neg (by omega), if_neg (by omega), if_pos h1]; simp [ahd_iff, h2, h4]; omega
theorem find_zero {l : List Tm} {t : Tm} (h : findE l t = 0) : Ok l ∧ mayB t l.length = true ∧ ∃ i, plc t l = some i ∧ findV l t = i := by
  have h' := h
  unfold findE at h
  by_cases hc : Ok l ∧ mayB t l.length = true
  · rw [if_pos hc] at h
    cases hp : plc t l with
    | none => rw [hp] at h; simp at h
    | some i => exact ⟨hc.1, hc.2, i, rfl, by unfold findV; rw [if_pos h', plcI_some hp]⟩
  · rw [if_neg hc] at h; simp at h
theorem find_of {l : List Tm} {t : Tm} {i : Nat} (hl : Ok l) (hm : mayB t l.length = true) (hp : plc t l = some i) : findE l t = 0 ∧ findV l t = i := by
  have e : findE l t = 0 := by unfold findE; rw [if_pos ⟨hl, hm⟩, if_neg (by rw [hp]; simp)]
  exact ⟨e, by unfold findV; rw [if_pos e, plcI_some hp]⟩
/-- what makes: found there, or put behind -/
theorem make_zero {l : List Tm} {t : Tm} (h : makeE l t = 0) : Ok l ∧ mayB t l.length = true ∧
    ((∃ i, plc t l = some i ∧ makeL l t = l ∧ makeV l t = i) ∨ (plc t l = none ∧ l.length < 65536 ∧ makeL l t = l ++ [t] ∧ makeV l t = l.length)) := by
  have h' := h
  unfold makeE at h
  by_cases h4 : findE l t = 4
  · rw [if_pos h4] at h
    by_cases h6 : l.length = 65536
    · rw [if_pos h6] at h; simp at h
    · have hc : Ok l ∧ mayB t l.length = true := by
        rcases Classical.em (Ok l ∧ mayB t l.length = true) with h | h
        · exact h
        · unfold findE at h4; rw [if_neg h] at h4; simp at h4
      have hp : plc t l = none := by
        rcases Classical.em (plc t l = none) with h | h
        · exact h
        · unfold findE at h4; rw [if_pos hc, if_neg h] at h4; simp at h4
      have hl := hc.1.1
      exact ⟨hc.1, hc.2, .inr ⟨hp, by omega, by unfold makeL; rw [if_neg (by omega), if_pos h'], by unfold makeV; rw [if_neg (by omega), if_pos h']⟩⟩
  · rw [if_neg h4] at h
    obtain ⟨h1, h2, i, h3, h5⟩ := find_zero h
    exact ⟨h1, h2, .inl ⟨i, h3, by unfold makeL; rw [if_pos h], by unfold makeV; rw [if_pos h, plcI_some h3]⟩⟩
theorem make_ok {l : List Tm} {t : Tm} (h : makeE l t = 0) : Ok (makeL l t) := by
  obtain ⟨h1, h2, ⟨i, h3, h4, _⟩ | ⟨h3, h4, h5, _⟩⟩ := make_zero h
  · rw [h4]; exact h1
  · rw [h5]; exact h1.more h2 h3 (by omega)
theorem make_len {l : List Tm} {t : Tm} (h : makeE l t = 0) : l.length ≤ (makeL l t).length ∧ (makeL l t).length ≤ l.length + 1 ∧ (makeL l t).take l.length = l := by
  obtain ⟨_, _, ⟨i, _, h4, _⟩ | ⟨_, _, h5, _⟩⟩ := make_zero h
  · rw [h4]; simp
  · rw [h5]; simp
/-- what is made is there, where it is told -/
theorem make_there {l : List Tm} {t : Tm} (h : makeE l t = 0) : ∃ i : Nat, makeV l t = i ∧ i < (makeL l t).length ∧ at_ (makeL l t) i = t ∧ plc t (makeL l t) = some i ∧ mayB t (makeL l t).length = true := by
  have hk := make_ok h
  obtain ⟨h1, h2, ⟨i, h3, h4, h5⟩ | ⟨h3, h4, h5, h6⟩⟩ := make_zero h
  · obtain ⟨p1, p2, _⟩ := plc_lt h3
    rw [h4]
    exact ⟨i, h5, p1, p2, h3, h2⟩
  · rw [h5] at hk ⊢
    have hl : l.length < (l ++ [t]).length := by simp
    refine ⟨l.length, h6, hl, at_last, ?_, may_mono h2 (by simp; omega)⟩
    have := hk.place hl
    rwa [at_last] at this
theorem make_again {l : List Tm} {t : Tm} (h : makeE l t = 0) : makeE (makeL l t) t = 0 ∧ makeL (makeL l t) t = makeL l t ∧ makeV (makeL l t) t = makeV l t ∧ findE (makeL l t) t = 0 ∧ findV (makeL l t) t = makeV l t := by
  obtain ⟨i, h1, h2, h3, h4, h5⟩ := make_there h
  obtain ⟨f1, f2⟩ := find_of (make_ok h) h5 h4
  refine ⟨by unfold makeE; rw [if_neg (by omega), f1], by rw [makeL, if_pos f1], by rw [makeV, if_pos f1, plcI_some h4, h1], f1, by rw [f2, h1]⟩
/-- what was found stays -/
theorem find_stays {l : List Tm} {t o : Tm} (h : findE l o = 0) (hm : makeE l t = 0) : findE (makeL l t) o = 0 ∧ findV (makeL l t) o = findV l o := by
  obtain ⟨h1, h2, i, h3, h4⟩ := find_zero h
  rw [h4]
  have hk := make_ok hm
  obtain ⟨_, _, ⟨_, _, e, _⟩ | ⟨_, _, e, _⟩⟩ := make_zero hm
  · rw [e]; exact find_of h1 h2 h3
  · rw [e] at hk ⊢
    exact find_of hk (may_mono h2 (by simp; omega)) (plc_append h3)
theorem make_fit {l : List Tm} {t : Tm} {P : Tm → Prop} (hl : ∀ x ∈ l, P x) (ht : P t) : ∀ x ∈ makeL l t, P x := by
  intro x hx
  unfold makeL at hx
  split at hx
  · exact hl x hx
  · split at hx
    · rcases List.mem_append.1 hx with h | h
      · exact hl x h
      · rw [List.mem_singleton] at h; rw [h]; exact ht
    · simp at hx
theorem make_none {l : List Tm} {t : Tm} (h : ¬ makeE l t = 0) : makeL l t = [] := by
  unfold makeL
  rw [if_neg, if_neg h]
  intro e
  apply h
  unfold makeE; rw [if_neg (by omega), e]
theorem tmod_cut (a : Int) (n : Nat) : ∃ r : Int, a.tmod ((n : Int) + 1) = r ∧ -(n : Int) ≤ r ∧ r ≤ n ∧ ∃ c : Nat, (r + n + 1).tmod ((n : Int) + 1) = c ∧ c ≤ n := by
  refine ⟨_, rfl, ?_, ?_, ?_⟩
  · have h1 := Int.tmod_lt_of_pos (-a) (show 0 < (n : Int) + 1 by omega)
    rw [Int.neg_tmod] at h1
    omega
  · have h1 := Int.tmod_lt_of_pos a (show 0 < (n : Int) + 1 by omega)
    omega
  · have h0 : 0 ≤ a.tmod ((n : Int) + 1) + n + 1 := by
      have h1 := Int.tmod_lt_of_pos (-a) (show 0 < (n : Int) + 1 by omega)
      rw [Int.neg_tmod] at h1
      omega
    have h1 := Int.tmod_nonneg ((n : Int) + 1) h0
    have h2 := Int.tmod_lt_of_pos (a.tmod ((n : Int) + 1) + n + 1) (show 0 < (n : Int) + 1 by omega)
    exact ⟨((a.tmod ((n : Int) + 1) + n + 1).tmod ((n : Int) + 1)).toNat, by omega, by omega⟩
end M
end Go.Proofs.YthmiekinjfaflaaGreat
