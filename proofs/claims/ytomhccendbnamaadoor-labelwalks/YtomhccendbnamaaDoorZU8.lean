/-
  What the program's appendText comes to: the term's text behind, as long as there is room; else more than there is room for. Conditions: each theorem's own premises; the two tables read as their texts lay them.
-/
import Derived.Test.YtomhccendbnamaaDoorRows
import Derived.Test.YtomhccendbnamaaDoorZShelf
import Derived.Test.YtomhccendbnamaaDoorZU5
import Derived.Lib.AppendStr
import Derived.Lib.AppendIntMem
import Derived.ChangeBears2
import Derived.Laws.IdiomStrings
import Derived.Lib.LaidTab
namespace Go.Proofs.YtomhccendbnamaaDoor
open Go.RowKit
/-- what the texts of terms begin with, as the table holds it -/
def begC : Array Value := #[.string ⟨#[]⟩, .string ⟨#[97]⟩, .string ⟨#[76, 40]⟩, .string ⟨#[82, 40]⟩, .string ⟨#[75, 40]⟩, .string ⟨#[87, 40]⟩]
/-- the two tables read as their texts lay them -/
def Tab (W : World) : Prop := Lib.TabIs Tryd.prog W "internal/strconv.uint64pow10" .u64 Lib.pow10Tab ∧ W.var? Tryd.prog "medlar/term.begins" = some begC
theorem var_below {W W' : World} {n : String} {cs : Array Value} (h : W.var? Tryd.prog n = some cs) (hb : Below W.heap.size W W') : W'.var? Tryd.prog n = some cs := by
  unfold World.var? at *
  cases hg : Tryd.prog.globalNamed n with
  | none => simp [hg] at h
  | some g =>
    simp only [hg, Option.bind_some] at h ⊢
    have hlt : g < W.heap.size := by
      rcases Nat.lt_or_ge g W.heap.size with h' | h'
      · exact h'
      · rw [Array.getElem?_eq_none h'] at h; simp at h
    rw [hb.block g hlt]
    exact h
theorem Tab.below {W W' : World} (h : Tab W) (hb : Below W.heap.size W W') : Tab W' := ⟨var_below h.1 hb, var_below h.2 hb⟩
theorem gBeg : Tryd.prog.globalNamed "medlar/term.begins" = some 0 := by kernel_rfl
theorem Tab.cell {W : World} (h : Tab W) (k : Nat) : W.cell? ⟨0, k, none⟩ = begC[k]? := World.var?_cell gBeg h.2 k
/-- what appendText stands on -/
def Env (A : List M.Tm) (v : Value) (B : Nat) (w : World) : Prop := ∀ X, Below B w X → Tab X ∧ Ts X v A
theorem Env.on {A : List M.Tm} {v : Value} {B : Nat} {w w1 : World} (h : Env A v B w) (hb : Below B w w1) : Env A v B w1 := fun X h' => h X (hb.trans h')
theorem Env.pow {A : List M.Tm} {v : Value} {B : Nat} {w : World} (h : Env A v B w) : Lib.TabBelow Tryd.prog B w "internal/strconv.uint64pow10" .u64 Lib.pow10Tab := fun X hb => (h X hb).1.1
def M.AppR (T : List UInt8) (m : Nat) (xs ys : List UInt8) : Prop := (65536 < xs.length → ys = xs) ∧ (xs.length + T.length ≤ 65536 → ys = xs ++ T) ∧ (65536 < xs.length + T.length → 65536 < ys.length) ∧ (xs.length ≤ 65536 → ys.length ≤ m)
def AppQ (T : List UInt8) (i : Nat) (xs : List UInt8) (B : Nat) (w : World) (e : Ending) (w' : World) : Prop := ∃ v' ys, e = .returned v' ∧ w'.ownsRow B 5 1 v' ys.length (Lib.byteCells ys) ∧ M.AppR T (65560 + 2 * i) xs ys ∧ Below B w w' ∧ Lib.OthersKept 5 none w w'
def AppC (A : List M.Tm) (v : Value) (B i : Nat) : Prop := ∀ (xs : List UInt8) (sv : Value) (w : World), w.ownsRow B 5 1 sv xs.length (Lib.byteCells xs) → B ≤ w.heap.size → xs.length ≤ 300000 → Env A v B w →
  Calls Tryd.prog 33 #[sv, v, .int .i64 i] w fun e w' => AppQ (M.txt A i) i xs B w e w'
set_option maxRecDepth 100000 in
theorem oth_append {B n : Nat} {v : Value} {xs : List Value} {w w' : World} (h : w.ownsRow B 5 1 v n xs) (hg : w.grownBy w' v.ownBlock) : Lib.OthersKept 5 none w w' := by
  intro k o hk _ ho
  have hlt : k < w.heap.size := (Array.getElem?_eq_some_iff.1 hk).1
  rw [hg.block k hlt ?_]
  · exact hk
  · intro e
    rcases h.2 with ⟨rfl, _⟩ | ⟨g, cap, cur, rfl, _, h3, _⟩
    · simp [Value.ownBlock] at e
    · obtain rfl : k = g := by simpa [Value.ownBlock] using e
      rw [h3] at hk
      exact ho _ _ (Option.some.inj hk).symm
theorem oth_alloc (e : TypeId) (w : World) (o : Obj) : Lib.OthersKept e none w (w.alloc o) := fun k x hk _ _ => by
  have hlt : k < w.heap.size := (Array.getElem?_eq_some_iff.1 hk).1
  exact (Below.heap_alloc _ _ _ hlt).trans hk
set_option maxRecDepth 100000 in
theorem Bx3.oth {w w' : World} {k : Nat} {s : M.Tm} (h : Bx3 w k s) (ho : Lib.OthersKept 5 none w w') : Bx3 w' k s :=
  ho k _ h (by simp) (fun c fz e => by
    have := Obj.cells.inj e
    exact absurd this.2.1 (by decide))
set_option maxRecDepth 100000 in
theorem Tryd.infoByteq : (Tryd.prog.info? 5).map (fun i => (i.zero, i.size, i.bytes)) = some (some (.int .u8 0), 1, 1) := by kernel_rfl
set_option maxRecDepth 100000 in
theorem app_long (v : Value) (B i : Nat) (T : List UInt8) (xs : List UInt8) (sv : Value) (w : World) (hown : w.ownsRow B 5 1 sv xs.length (Lib.byteCells xs)) (hx : xs.length ≤ 300000) (hl : 65536 < xs.length) :
    Calls Tryd.prog 33 #[sv, v, .int .i64 i] w fun e w' => AppQ T i xs B w e w' := by
  have HO := hidq hown
  obtain ⟨ao, cap, rfl, hs⟩ := own_formq hown
  clear hown hs
  have hli : (65536 : Int) < xs.length := by omega
  go_enter Tryd.func33, Tryd.ntmps33
  go_wp2
  go_ret
  exact ⟨_, xs, rfl, HO.out, ⟨fun _ => rfl, fun h => by omega, fun _ => hl, fun h => by omega⟩, Below.refl _ _, Lib.OthersKept.refl _ _ _⟩
end Go.Proofs.YtomhccendbnamaaDoor
namespace Go.Proofs.YtomhccendbnamaaDoor
open Go.RowKit
theorem str_cells (l : List UInt8) : Lib.strCells ⟨l.toArray⟩ = Lib.byteCells l := rfl
theorem bc_append (a b : List UInt8) : Lib.byteCells a ++ Lib.byteCells b = Lib.byteCells (a ++ b) := by simp [Lib.byteCells]
set_option maxRecDepth 100000 in
set_option maxHeartbeats 4000000 in
theorem app_atom (A : List M.Tm) (a i : Nat) (d : Int) (b off n cap B : Nat) (xs : List UInt8) (sv : Value) (w : World) (hin : i < n) (hown : w.ownsRow B 5 1 sv xs.length (Lib.byteCells xs)) (hB : B ≤ w.heap.size) (hx : xs.length ≤ 65536) (henv : Env A (.slice (some ⟨b, off, none⟩) n cap) B w)
    (x1 : w.cell? ⟨b, off + i * 3, none⟩ = some (.int .i64 1)) (x2 : w.cell? ⟨b, off + i * 3 + 1, none⟩ = some (.int .i64 a)) (x3 : w.cell? ⟨b, off + i * 3 + 2, none⟩ = some (.int .i64 d)) (ha : a ≤ 1048576) (T : List UInt8) (hT : T = 97 :: Lib.decDigits a) :
    Calls Tryd.prog 33 #[sv, .slice (some ⟨b, off, none⟩) n cap, .int .i64 i] w fun e w' => AppQ T i xs B w e w' := by
  obtain ⟨i0, hi, hz0, hz1, hz2⟩ := info_partsq Tryd.infoByteq
  obtain ⟨k, hk⟩ : ∃ k : Int, k = 1 := ⟨_, rfl⟩
  have B0 := hidq ((Below.refl B w).alloc hB (.cells #[.int .i64 k, .int .i64 a, .int .i64 d] 43))
  have t1 : (w.alloc (.cells #[.int .i64 k, .int .i64 a, .int .i64 d] 43)).cell? ⟨0, 1, none⟩ = some (.string ⟨#[97]⟩) := (henv _ B0.out).1.cell 1
  have O0 := hidq (hown.alloc (.cells #[.int .i64 k, .int .i64 a, .int .i64 d] 43))
  have S0 := hidq (show B ≤ (w.alloc (.cells #[.int .i64 k, .int .i64 a, .int .i64 d] 43)).heap.size by simp; omega)
  have X0 := hidq (Bx3.new w (k, a, d))
  subst hk
  obtain ⟨ao, cp, rfl, hs⟩ := own_formq hown
  have hxi : ¬ (65536 : Int) < xs.length := by omega
  have hini : (i : Int) < n := by omega
  have hdl : (Lib.decDigits a).length ≤ 20 := by rw [Lib.decDigits_length]; exact Lib.nDigits_le20 a (by omega)
  have hsz : (⟨#[97]⟩ : ByteArray).size = 1 := rfl
  have HD := hidq hdl
  have HT := hidq hT
  clear hown hs hdl hT
  have henv := hidq henv
  go_enter Tryd.func33, Tryd.ntmps33
  go_wp2_with (first | (at_builtin; refine Lib.wpList_append_own_string _ rfl _ _ 74 9 rfl B 5 i0 Tryd.underlying74 Tryd.underlying9 hi hz0 hz1 hz2 _ _ _ rfl O0.out _ rfl (by rw [hsz]; unfold maxLen; omega) (by rw [hsz]; omega) S0.out ?_; intro v1 w1 ho1 hg1 _; have K1 := hidq ((oth_alloc _ w _).trans (oth_append O0.out hg1)); have X1 := hidq (X0.out.oth (oth_append O0.out hg1)); have c1 := X1.out.cells; have B1 := hidq (B0.out.grown hg1 S0.out (fun q hq => (O0.out.lt q hq).1)); have E1 := hidq (henv.out.on B1.out); have S1 := hidq (Nat.le_trans hB B1.out.size); have O1 := hidq ho1; clear ho1 hg1) | (go_at_call 57; refine (Tryd.strconv_AppendInt_10 B _ a (by omega) (by omega) _ _ _ O1.out S1.out (by rw [hsz]; omega) E1.out.pow).mono ?_; rintro r w2 ⟨v2, rfl, ho2, hb2, hk2⟩; have O2 := hidq ho2; have B2 := hidq (B1.out.trans hb2); have K2 := hidq (K1.out.trans hk2); clear ho2 hb2 hk2))
  go_ret
  refine ⟨_, xs ++ T, rfl, ?_, ⟨fun h => by omega, fun _ => rfl, fun h => by rw [List.length_append]; exact h, fun _ => ?_⟩, B2.out, K2.out⟩
  · have h := O2.out
    rw [Lib.itoa_nonneg, str_cells [97], bc_append, bc_append, List.append_assoc, show ([97] : List UInt8) ++ Lib.decDigits a = T by rw [HT.out]; rfl] at h
    rw [List.length_append, HT.out]
    rw [hsz] at h
    rw [show xs.length + (97 :: Lib.decDigits a).length = xs.length + 1 + (Lib.decDigits a).length by simp; omega]
    rw [HT.out] at h
    exact h
  · rw [List.length_append, HT.out, List.length_cons]
    have := HD.out
    omega
theorem M.appR_le {T xs ys : List UInt8} {m : Nat} (h : M.AppR T m xs ys) (hm : 65538 ≤ m) (hx : xs.length ≤ 65538) : ys.length ≤ m := by
  obtain ⟨h1, h2, h3, h4⟩ := h
  by_cases hl : xs.length ≤ 65536
  · exact h4 hl
  · rw [h1 (by omega)]; omega
theorem M.appR_one {xs ys H ta : List UInt8} {a i : Nat} (hH : H.length = 2) (hai : a < i) (hx : xs.length ≤ 65536) (h : M.AppR ta (65560 + 2 * a) (xs ++ H) ys) : M.AppR (H ++ ta ++ [41]) (65560 + 2 * i) xs (ys ++ [41]) := by
  have hle := M.appR_le h (by omega) (by rw [List.length_append]; omega)
  obtain ⟨h1, h2, h3, h4⟩ := h
  rw [List.length_append, hH] at h1 h2 h3 h4
  refine ⟨fun h => by omega, fun h => ?_, fun h => ?_, fun _ => ?_⟩
  · simp only [List.length_append, List.length_cons, List.length_nil, hH] at h
    rw [h2 (by omega)]
    simp
  · simp only [List.length_append, List.length_cons, List.length_nil, hH] at h
    rw [List.length_append]
    by_cases hc : xs.length + 2 + ta.length ≤ 65536
    · rw [h2 hc]
      simp only [List.length_append, List.length_cons, List.length_nil, hH]
      omega
    · have := h3 (by omega)
      simp only [List.length_cons, List.length_nil]
      omega
  · simp only [List.length_append, List.length_cons, List.length_nil]
    omega
theorem M.appR_two {xs ys zs H ta td : List UInt8} {a d i : Nat} (hH : H.length = 2) (hai : a < i) (hdi : d < i) (hx : xs.length ≤ 65536) (h : M.AppR ta (65560 + 2 * a) (xs ++ H) ys) (g : M.AppR td (65560 + 2 * d) (ys ++ [44]) zs) : M.AppR (H ++ ta ++ 44 :: td ++ [41]) (65560 + 2 * i) xs (zs ++ [41]) ∧ zs.length ≤ 65561 + 2 * i := by
  have hle := M.appR_le h (by omega) (by rw [List.length_append]; omega)
  obtain ⟨h1, h2, h3, h4⟩ := h
  rw [List.length_append, hH] at h1 h2 h3 h4
  obtain ⟨g1, g2, g3, g4⟩ := g
  have el : (ys ++ [44]).length = ys.length + 1 := by simp
  rw [el] at g1 g2 g3 g4
  have hz : zs.length ≤ 65560 + 2 * i - 1 := by
    by_cases hl : ys.length + 1 ≤ 65536
    · have := g4 hl; omega
    · rw [g1 (by omega), el]; omega
  refine ⟨⟨fun h => by omega, fun h => ?_, fun h => ?_, fun _ => ?_⟩, by omega⟩
  · simp only [List.length_append, List.length_cons, List.length_nil, hH] at h
    have e1 := h2 (by omega)
    have l1 : ys.length = xs.length + 2 + ta.length := by rw [e1]; simp only [List.length_append, hH]
    rw [g2 (by omega), e1]
    simp
  · simp only [List.length_append, List.length_cons, List.length_nil, hH] at h
    have el2 : (zs ++ [41]).length = zs.length + 1 := by simp
    rw [el2]
    by_cases hc : ys.length + 1 + td.length ≤ 65536
    · have e2 : zs.length = ys.length + 1 + td.length := by rw [g2 hc, List.length_append, el]
      by_cases hc2 : xs.length + 2 + ta.length ≤ 65536
      · have l1 : ys.length = xs.length + 2 + ta.length := by rw [h2 hc2]; simp only [List.length_append, hH]
        omega
      · have := h3 (by omega)
        omega
    · have := g3 (by omega)
      omega
  · rw [List.length_append]
    simp only [List.length_cons, List.length_nil]
    omega
set_option maxRecDepth 100000 in
/-- one octet in a new block -/
theorem oct_cells (w : World) (c : Int) (j : Nat) (u : Value) (hj : ([Value.int .u8 c] : List Value)[j]? = some u) : (w.alloc (.cells #[.int .u8 c] 5)).cell? ((⟨w.heap.size, 0, none⟩ : Addr).add j) = some u := by
  match j, hj with
  | 0, hj => simp at hj; subst hj; simp [Addr.add]
set_option maxRecDepth 100000 in
theorem own_end {B : Nat} {v : Value} {ys : List UInt8} {c : UInt8} {W : World} (h : W.ownsRow B 5 1 v (ys.length + 1) (Lib.byteCells ys ++ [Value.int .u8 c.toNat])) : W.ownsRow B 5 1 v (ys ++ [c]).length (Lib.byteCells (ys ++ [c])) := by
  rw [← bc_append, List.length_append]; exact h
set_option maxRecDepth 100000 in
set_option maxHeartbeats 4000000 in
theorem app_one (A : List M.Tm) (k : Int) (a i : Nat) (d : Int) (c0 : UInt8) (hk : (k = 2 ∧ c0 = 76) ∨ (k = 3 ∧ c0 = 82) ∨ (k = 4 ∧ c0 = 75)) (b off n cap B : Nat) (xs : List UInt8) (sv : Value) (w : World) (hin : i < n) (hn : n ≤ 65536) (hai : a < i) (hown : w.ownsRow B 5 1 sv xs.length (Lib.byteCells xs)) (hB : B ≤ w.heap.size) (hx : xs.length ≤ 65536) (henv : Env A (.slice (some ⟨b, off, none⟩) n cap) B w)
    (x1 : w.cell? ⟨b, off + i * 3, none⟩ = some (.int .i64 k)) (x2 : w.cell? ⟨b, off + i * 3 + 1, none⟩ = some (.int .i64 a)) (x3 : w.cell? ⟨b, off + i * 3 + 2, none⟩ = some (.int .i64 d)) (ih : AppC A (.slice (some ⟨b, off, none⟩) n cap) B a) (T : List UInt8) (hT : T = [c0, 40] ++ M.txt A a ++ [41]) :
    Calls Tryd.prog 33 #[sv, .slice (some ⟨b, off, none⟩) n cap, .int .i64 i] w fun e w' => AppQ T i xs B w e w' := by
  obtain ⟨i0, hi, hz0, hz1, hz2⟩ := info_partsq Tryd.infoByteq
  have B0 := hidq ((Below.refl B w).alloc hB (.cells #[.int .i64 k, .int .i64 a, .int .i64 d] 43))
  have TC := hidq (fun j => (henv _ B0.out).1.cell j)
  have O0 := hidq (hown.alloc (.cells #[.int .i64 k, .int .i64 a, .int .i64 d] 43))
  have S0 := hidq (show B ≤ (w.alloc (.cells #[.int .i64 k, .int .i64 a, .int .i64 d] 43)).heap.size by simp; omega)
  have X0 := hidq (Bx3.new w (k, a, d))
  obtain ⟨ao, cp, rfl, hs⟩ := own_formq hown
  have hxi : ¬ (65536 : Int) < xs.length := by omega
  have hini : (i : Int) < n := by omega
  have hsz : (⟨#[c0, 40]⟩ : ByteArray).size = 2 := rfl
  have HH := hidq (show ∀ (W : World) (v : Value), W.ownsRow B 5 1 v (xs.length + (⟨#[c0, 40]⟩ : ByteArray).size) (Lib.byteCells xs ++ Lib.strCells ⟨#[c0, 40]⟩) → W.ownsRow B 5 1 v (xs ++ [c0, 40]).length (Lib.byteCells (xs ++ [c0, 40])) from fun W v h => by
    rw [str_cells [c0, 40], bc_append] at h
    rw [List.length_append]; exact h)
  have HL := hidq (show (xs ++ [c0, 40]).length ≤ 300000 by simp; omega)
  have HL2 := hidq (show (xs ++ [c0, 40]).length ≤ 65538 by simp; omega)
  have HR := hidq (fun ys => M.appR_one (xs := xs) (ys := ys) (H := [c0, 40]) (ta := M.txt A a) (a := a) (i := i) rfl hai hx)
  rw [← hT] at HR
  have IH := hidq ih
  clear hown hs hT ih
  have henv := hidq henv
  have T1 := hidq trivial
  rcases hk with ⟨rfl, rfl⟩ | ⟨rfl, rfl⟩ | ⟨rfl, rfl⟩
  · have t1 : (w.alloc (.cells #[.int .i64 2, .int .i64 a, .int .i64 d] 43)).cell? ⟨0, 2, none⟩ = some (.string ⟨#[76, 40]⟩) := TC.out 2
    go_enter Tryd.func33, Tryd.ntmps33
    go_wp2_with (first | (at_builtin; refine Lib.wpList_append_own_string _ rfl _ _ 74 9 rfl B 5 i0 Tryd.underlying74 Tryd.underlying9 hi hz0 hz1 hz2 _ _ _ rfl O0.out _ rfl (by rw [hsz]; unfold maxLen; omega) (by rw [hsz]; omega) S0.out ?_; intro v1 w1 ho1 hg1 _; have K1 := hidq ((oth_alloc _ w _).trans (oth_append O0.out hg1)); have X1 := hidq (X0.out.oth (oth_append O0.out hg1)); have c1 := X1.out.cells; have B1 := hidq (B0.out.grown hg1 S0.out (fun q hq => (O0.out.lt q hq).1)); have E1 := hidq (henv.out.on B1.out); have S1 := hidq (Nat.le_trans hB B1.out.size); have O1 := hidq (HH.out _ _ ho1); clear ho1 hg1) | (go_at_call 33; clear T1; refine (IH.out _ _ _ O1.out S1.out HL.out E1.out).mono ?_; rintro r w2 ⟨v2, ys, rfl, ho2, hr2, hb2, hk2⟩; have O2 := hidq (ho2.alloc (.cells #[.int .u8 41] 5)); have R2 := hidq hr2; have B2 := hidq ((B1.out.trans hb2).alloc (Nat.le_trans S1.out hb2.size) (.cells #[.int .u8 41] 5)); have S2 := hidq (show B ≤ (w2.alloc (.cells #[.int .u8 41] 5)).heap.size from Nat.le_trans hB B2.out.size); have K2 := hidq ((K1.out.trans hk2).trans (oth_alloc _ w2 (.cells #[.int .u8 41] 5))); have X2 := hidq ((X1.out.oth hk2).alloc (.cells #[.int .u8 41] 5)); have cc2 := (X1.out.oth hk2).cells; have c2 := X2.out.cells; have L2 := hidq (M.appR_le hr2 (by omega) HL2.out); have G2 := hidq (oct_cells w2 41); clear ho2 hr2 hb2 hk2) | (at_builtin; refine wpList_append_own _ rfl _ _ 74 rfl B 5 i0 (.int .u8 0) 1 1 Tryd.underlying74 hi hz0 hz1 hz2 rfl (by decide) _ _ _ rfl O2.out ⟨w2.heap.size, 0, none⟩ 1 1 [Value.int .u8 41] rfl rfl G2.out (by intro u' hu'; simp at hu'; subst hu'; rfl) (by have := L2.out; unfold maxLen; omega) (by have := L2.out; omega) S2.out ?_; intro v3 w3 ho3 hg3 _; have K3 := hidq (K2.out.trans (oth_append O2.out hg3)); have B3 := hidq (B2.out.grown hg3 S2.out (fun q hq => (O2.out.lt q hq).1)); have O3 := hidq ho3; clear ho3 hg3))
    go_ret
    exact ⟨_, ys ++ [41], rfl, own_end O3.out, HR.out _ R2.out, B3.out, K3.out⟩
  · have t1 : (w.alloc (.cells #[.int .i64 3, .int .i64 a, .int .i64 d] 43)).cell? ⟨0, 3, none⟩ = some (.string ⟨#[82, 40]⟩) := TC.out 3
    go_enter Tryd.func33, Tryd.ntmps33
    go_wp2_with (first | (at_builtin; refine Lib.wpList_append_own_string _ rfl _ _ 74 9 rfl B 5 i0 Tryd.underlying74 Tryd.underlying9 hi hz0 hz1 hz2 _ _ _ rfl O0.out _ rfl (by rw [hsz]; unfold maxLen; omega) (by rw [hsz]; omega) S0.out ?_; intro v1 w1 ho1 hg1 _; have K1 := hidq ((oth_alloc _ w _).trans (oth_append O0.out hg1)); have X1 := hidq (X0.out.oth (oth_append O0.out hg1)); have c1 := X1.out.cells; have B1 := hidq (B0.out.grown hg1 S0.out (fun q hq => (O0.out.lt q hq).1)); have E1 := hidq (henv.out.on B1.out); have S1 := hidq (Nat.le_trans hB B1.out.size); have O1 := hidq (HH.out _ _ ho1); clear ho1 hg1) | (go_at_call 33; clear T1; refine (IH.out _ _ _ O1.out S1.out HL.out E1.out).mono ?_; rintro r w2 ⟨v2, ys, rfl, ho2, hr2, hb2, hk2⟩; have O2 := hidq (ho2.alloc (.cells #[.int .u8 41] 5)); have R2 := hidq hr2; have B2 := hidq ((B1.out.trans hb2).alloc (Nat.le_trans S1.out hb2.size) (.cells #[.int .u8 41] 5)); have S2 := hidq (show B ≤ (w2.alloc (.cells #[.int .u8 41] 5)).heap.size from Nat.le_trans hB B2.out.size); have K2 := hidq ((K1.out.trans hk2).trans (oth_alloc _ w2 (.cells #[.int .u8 41] 5))); have X2 := hidq ((X1.out.oth hk2).alloc (.cells #[.int .u8 41] 5)); have cc2 := (X1.out.oth hk2).cells; have c2 := X2.out.cells; have L2 := hidq (M.appR_le hr2 (by omega) HL2.out); have G2 := hidq (oct_cells w2 41); clear ho2 hr2 hb2 hk2) | (at_builtin; refine wpList_append_own _ rfl _ _ 74 rfl B 5 i0 (.int .u8 0) 1 1 Tryd.underlying74 hi hz0 hz1 hz2 rfl (by decide) _ _ _ rfl O2.out ⟨w2.heap.size, 0, none⟩ 1 1 [Value.int .u8 41] rfl rfl G2.out (by intro u' hu'; simp at hu'; subst hu'; rfl) (by have := L2.out; unfold maxLen; omega) (by have := L2.out; omega) S2.out ?_; intro v3 w3 ho3 hg3 _; have K3 := hidq (K2.out.trans (oth_append O2.out hg3)); have B3 := hidq (B2.out.grown hg3 S2.out (fun q hq => (O2.out.lt q hq).1)); have O3 := hidq ho3; clear ho3 hg3))
    go_ret
    exact ⟨_, ys ++ [41], rfl, own_end O3.out, HR.out _ R2.out, B3.out, K3.out⟩
  · have t1 : (w.alloc (.cells #[.int .i64 4, .int .i64 a, .int .i64 d] 43)).cell? ⟨0, 4, none⟩ = some (.string ⟨#[75, 40]⟩) := TC.out 4
    go_enter Tryd.func33, Tryd.ntmps33
    go_wp2_with (first | (at_builtin; refine Lib.wpList_append_own_string _ rfl _ _ 74 9 rfl B 5 i0 Tryd.underlying74 Tryd.underlying9 hi hz0 hz1 hz2 _ _ _ rfl O0.out _ rfl (by rw [hsz]; unfold maxLen; omega) (by rw [hsz]; omega) S0.out ?_; intro v1 w1 ho1 hg1 _; have K1 := hidq ((oth_alloc _ w _).trans (oth_append O0.out hg1)); have X1 := hidq (X0.out.oth (oth_append O0.out hg1)); have c1 := X1.out.cells; have B1 := hidq (B0.out.grown hg1 S0.out (fun q hq => (O0.out.lt q hq).1)); have E1 := hidq (henv.out.on B1.out); have S1 := hidq (Nat.le_trans hB B1.out.size); have O1 := hidq (HH.out _ _ ho1); clear ho1 hg1) | (go_at_call 33; clear T1; refine (IH.out _ _ _ O1.out S1.out HL.out E1.out).mono ?_; rintro r w2 ⟨v2, ys, rfl, ho2, hr2, hb2, hk2⟩; have O2 := hidq (ho2.alloc (.cells #[.int .u8 41] 5)); have R2 := hidq hr2; have B2 := hidq ((B1.out.trans hb2).alloc (Nat.le_trans S1.out hb2.size) (.cells #[.int .u8 41] 5)); have S2 := hidq (show B ≤ (w2.alloc (.cells #[.int .u8 41] 5)).heap.size from Nat.le_trans hB B2.out.size); have K2 := hidq ((K1.out.trans hk2).trans (oth_alloc _ w2 (.cells #[.int .u8 41] 5))); have X2 := hidq ((X1.out.oth hk2).alloc (.cells #[.int .u8 41] 5)); have cc2 := (X1.out.oth hk2).cells; have c2 := X2.out.cells; have L2 := hidq (M.appR_le hr2 (by omega) HL2.out); have G2 := hidq (oct_cells w2 41); clear ho2 hr2 hb2 hk2) | (at_builtin; refine wpList_append_own _ rfl _ _ 74 rfl B 5 i0 (.int .u8 0) 1 1 Tryd.underlying74 hi hz0 hz1 hz2 rfl (by decide) _ _ _ rfl O2.out ⟨w2.heap.size, 0, none⟩ 1 1 [Value.int .u8 41] rfl rfl G2.out (by intro u' hu'; simp at hu'; subst hu'; rfl) (by have := L2.out; unfold maxLen; omega) (by have := L2.out; omega) S2.out ?_; intro v3 w3 ho3 hg3 _; have K3 := hidq (K2.out.trans (oth_append O2.out hg3)); have B3 := hidq (B2.out.grown hg3 S2.out (fun q hq => (O2.out.lt q hq).1)); have O3 := hidq ho3; clear ho3 hg3))
    go_ret
    exact ⟨_, ys ++ [41], rfl, own_end O3.out, HR.out _ R2.out, B3.out, K3.out⟩
end Go.Proofs.YtomhccendbnamaaDoor
namespace Go.Proofs.YtomhccendbnamaaDoor
open Go.RowKit
set_option maxRecDepth 100000 in
set_option maxHeartbeats 4000000 in
theorem app_two (A : List M.Tm) (a d i : Nat) (b off n cap B : Nat) (xs : List UInt8) (sv : Value) (w : World) (hin : i < n) (hn : n ≤ 65536) (hai : a < i) (hdi : d < i) (hown : w.ownsRow B 5 1 sv xs.length (Lib.byteCells xs)) (hB : B ≤ w.heap.size) (hx : xs.length ≤ 65536) (henv : Env A (.slice (some ⟨b, off, none⟩) n cap) B w)
    (x1 : w.cell? ⟨b, off + i * 3, none⟩ = some (.int .i64 5)) (x2 : w.cell? ⟨b, off + i * 3 + 1, none⟩ = some (.int .i64 a)) (x3 : w.cell? ⟨b, off + i * 3 + 2, none⟩ = some (.int .i64 d)) (ih : AppC A (.slice (some ⟨b, off, none⟩) n cap) B a) (jh : AppC A (.slice (some ⟨b, off, none⟩) n cap) B d) (T : List UInt8) (hT : T = [87, 40] ++ M.txt A a ++ 44 :: M.txt A d ++ [41]) :
    Calls Tryd.prog 33 #[sv, .slice (some ⟨b, off, none⟩) n cap, .int .i64 i] w fun e w' => AppQ T i xs B w e w' := by
  obtain ⟨i0, hi, hz0, hz1, hz2⟩ := info_partsq Tryd.infoByteq
  have B0 := hidq ((Below.refl B w).alloc hB (.cells #[.int .i64 5, .int .i64 a, .int .i64 d] 43))
  have t1 : (w.alloc (.cells #[.int .i64 5, .int .i64 a, .int .i64 d] 43)).cell? ⟨0, 5, none⟩ = some (.string ⟨#[87, 40]⟩) := (henv _ B0.out).1.cell 5
  have O0 := hidq (hown.alloc (.cells #[.int .i64 5, .int .i64 a, .int .i64 d] 43))
  have S0 := hidq (show B ≤ (w.alloc (.cells #[.int .i64 5, .int .i64 a, .int .i64 d] 43)).heap.size by simp; omega)
  have X0 := hidq (Bx3.new w (5, a, d))
  obtain ⟨ao, cp, rfl, hs⟩ := own_formq hown
  have hxi : ¬ (65536 : Int) < xs.length := by omega
  have hini : (i : Int) < n := by omega
  have hsz : (⟨#[87, 40]⟩ : ByteArray).size = 2 := rfl
  have HH := hidq (show ∀ (W : World) (v : Value), W.ownsRow B 5 1 v (xs.length + (⟨#[87, 40]⟩ : ByteArray).size) (Lib.byteCells xs ++ Lib.strCells ⟨#[87, 40]⟩) → W.ownsRow B 5 1 v (xs ++ [87, 40]).length (Lib.byteCells (xs ++ [87, 40])) from fun W v h => by
    rw [str_cells [87, 40], bc_append] at h
    rw [List.length_append]; exact h)
  have HL := hidq (show (xs ++ [87, 40]).length ≤ 300000 by simp; omega)
  have HL2 := hidq (show (xs ++ [87, 40]).length ≤ 65538 by simp; omega)
  have HR := hidq (fun ys zs => M.appR_two (xs := xs) (ys := ys) (zs := zs) (H := [87, 40]) (ta := M.txt A a) (td := M.txt A d) (a := a) (d := d) (i := i) rfl hai hdi hx)
  rw [← hT] at HR
  have IH := hidq ih
  have JH := hidq jh
  clear hown hs hT ih jh
  have henv := hidq henv
  have T1 := hidq trivial
  go_enter Tryd.func33, Tryd.ntmps33
  go_wp2_with (first | (at_builtin; refine Lib.wpList_append_own_string _ rfl _ _ 74 9 rfl B 5 i0 Tryd.underlying74 Tryd.underlying9 hi hz0 hz1 hz2 _ _ _ rfl O0.out _ rfl (by rw [hsz]; unfold maxLen; omega) (by rw [hsz]; omega) S0.out ?_; intro v1 w1 ho1 hg1 _; have K1 := hidq ((oth_alloc _ w _).trans (oth_append O0.out hg1)); have X1 := hidq (X0.out.oth (oth_append O0.out hg1)); have c1 := X1.out.cells; have B1 := hidq (B0.out.grown hg1 S0.out (fun q hq => (O0.out.lt q hq).1)); have E1 := hidq (henv.out.on B1.out); have S1 := hidq (Nat.le_trans hB B1.out.size); have O1 := hidq (HH.out _ _ ho1); clear ho1 hg1) | (go_at_call 33; clear T1; refine (IH.out _ _ _ O1.out S1.out HL.out E1.out).mono ?_; rintro r w2 ⟨v2, ys, rfl, ho2, hr2, hb2, hk2⟩; have O2 := hidq (ho2.alloc (.cells #[.int .u8 44] 5)); have R2 := hidq hr2; have B2 := hidq ((B1.out.trans hb2).alloc (Nat.le_trans S1.out hb2.size) (.cells #[.int .u8 44] 5)); have S2 := hidq (show B ≤ (w2.alloc (.cells #[.int .u8 44] 5)).heap.size from Nat.le_trans hB B2.out.size); have K2 := hidq ((K1.out.trans hk2).trans (oth_alloc _ w2 (.cells #[.int .u8 44] 5))); have X2 := hidq ((X1.out.oth hk2).alloc (.cells #[.int .u8 44] 5)); have cc2 := (X1.out.oth hk2).cells; have c2 := X2.out.cells; have L2 := hidq (M.appR_le hr2 (by omega) HL2.out); have G2 := hidq (oct_cells w2 44); clear ho2 hr2 hb2 hk2) | (at_builtin; refine wpList_append_own _ rfl _ _ 74 rfl B 5 i0 (.int .u8 0) 1 1 Tryd.underlying74 hi hz0 hz1 hz2 rfl (by decide) _ _ _ rfl O2.out ⟨w2.heap.size, 0, none⟩ 1 1 [Value.int .u8 44] rfl rfl G2.out (by intro u' hu'; simp at hu'; subst hu'; rfl) (by have := L2.out; unfold maxLen; omega) (by have := L2.out; omega) S2.out ?_; intro v3 w3 ho3 hg3 _; have K3 := hidq (K2.out.trans (oth_append O2.out hg3)); have B3 := hidq (B2.out.grown hg3 S2.out (fun q hq => (O2.out.lt q hq).1)); have O3 := hidq (own_end (c := 44) ho3); have E3 := hidq (henv.out.on B3.out); have S3 := hidq (Nat.le_trans hB B3.out.size); have X3 := hidq (X2.out.oth (oth_append O2.out hg3)); have c3 := X3.out.cells; have L3 := hidq (show (ys ++ [44]).length ≤ 300000 by have := L2.out; simp; omega); clear ho3 hg3) | (go_at_call 33; refine (JH.out _ _ _ O3.out S3.out L3.out E3.out).mono ?_; rintro r w4 ⟨v4, zs, rfl, ho4, hr4, hb4, hk4⟩; have O4 := hidq (ho4.alloc (.cells #[.int .u8 41] 5)); have R4 := hidq (HR.out _ _ R2.out hr4); have B4 := hidq ((B3.out.trans hb4).alloc (Nat.le_trans S3.out hb4.size) (.cells #[.int .u8 41] 5)); have S4 := hidq (show B ≤ (w4.alloc (.cells #[.int .u8 41] 5)).heap.size from Nat.le_trans hB B4.out.size); have K4 := hidq ((K3.out.trans hk4).trans (oth_alloc _ w4 (.cells #[.int .u8 41] 5))); have L4 := hidq R4.out.2; have G4 := hidq (oct_cells w4 41); clear ho4 hr4 hb4 hk4) | (at_builtin; refine wpList_append_own _ rfl _ _ 74 rfl B 5 i0 (.int .u8 0) 1 1 Tryd.underlying74 hi hz0 hz1 hz2 rfl (by decide) _ _ _ rfl O4.out ⟨w4.heap.size, 0, none⟩ 1 1 [Value.int .u8 41] rfl rfl G4.out (by intro u' hu'; simp at hu'; subst hu'; rfl) (by have := L4.out; unfold maxLen; omega) (by have := L4.out; omega) S4.out ?_; intro v5 w5 ho5 hg5 _; have K5 := hidq (K4.out.trans (oth_append O4.out hg5)); have B5 := hidq (B4.out.grown hg5 S4.out (fun q hq => (O4.out.lt q hq).1)); have O5 := hidq ho5; clear ho5 hg5))
  go_ret
  exact ⟨_, zs ++ [41], rfl, own_end O5.out, R4.out.1, B5.out, K5.out⟩
/-- every term's text -/
theorem app_any (A : List M.Tm) (hA : M.Ok A) (b off cap B : Nat) : ∀ (m i : Nat), i < m → i < A.length → AppC A (.slice (some ⟨b, off, none⟩) A.length cap) B i := by
  intro m
  induction m with
  | zero => intro i h; omega
  | succ m ihm =>
    intro i him hi xs sv w hown hB hx henv
    by_cases hl : 65536 < xs.length
    · exact app_long _ B i _ xs sv w hown hx hl
    · have hu := (henv w (Below.refl _ _)).2
      obtain ⟨x1, x2, x3⟩ := Ts.cell hu hi
      have hm := (hA.2 i hi).1
      have hn := hA.1
      rcases M.may_kind hm with ⟨k1, k2, k3, k4⟩ | ⟨k1, k2, k3, k4⟩ | ⟨k1, k2, k3, k4, k5⟩
      · rw [k1] at x1
        obtain ⟨a, ha⟩ : ∃ a : Nat, (M.at_ A i).2.1 = a := ⟨(M.at_ A i).2.1.toNat, by omega⟩
        have hT := M.txt_atom hm k1
        rw [ha] at x2 hT k3
        rw [Int.toNat_natCast] at hT
        exact app_atom A a i _ b off _ cap B xs sv w hi hown hB (by omega) henv x1 x2 x3 (by omega) _ hT
      · obtain ⟨a, ha⟩ : ∃ a : Nat, (M.at_ A i).2.1 = a := ⟨(M.at_ A i).2.1.toNat, by omega⟩
        have hT := M.txt_one hm (by omega) (by omega)
        rw [ha] at x2 hT k3
        rw [Int.toNat_natCast] at hT
        have ih := ihm a (by omega) (by omega)
        rcases k1 with k1 | k1 | k1 <;> rw [k1] at x1 hT
        · exact app_one A 2 a i _ 76 (.inl ⟨rfl, rfl⟩) b off _ cap B xs sv w hi hn (by omega) hown hB (by omega) henv x1 x2 x3 ih _ hT
        · exact app_one A 3 a i _ 82 (.inr (.inl ⟨rfl, rfl⟩)) b off _ cap B xs sv w hi hn (by omega) hown hB (by omega) henv x1 x2 x3 ih _ hT
        · exact app_one A 4 a i _ 75 (.inr (.inr ⟨rfl, rfl⟩)) b off _ cap B xs sv w hi hn (by omega) hown hB (by omega) henv x1 x2 x3 ih _ hT
      · obtain ⟨a, ha⟩ : ∃ a : Nat, (M.at_ A i).2.1 = a := ⟨(M.at_ A i).2.1.toNat, by omega⟩
        obtain ⟨d, hd⟩ : ∃ d : Nat, (M.at_ A i).2.2 = d := ⟨(M.at_ A i).2.2.toNat, by omega⟩
        have hT := M.txt_two hm k1
        rw [ha] at x2 hT k3
        rw [hd] at x3 hT k5
        rw [Int.toNat_natCast, Int.toNat_natCast] at hT
        rw [k1] at x1
        exact app_two A a d i b off _ cap B xs sv w hi hn (by omega) (by omega) hown hB (by omega) henv x1 x2 x3 (ihm a (by omega) (by omega)) (ihm d (by omega) (by omega)) _ hT
end Go.Proofs.YtomhccendbnamaaDoor
namespace Go.Proofs.YtomhccendbnamaaDoor
open Go.RowKit
set_option maxRecDepth 100000 in
theorem conv_own {W : World} {B : Nat} {v : Value} {L : List UInt8} (h : W.ownsRow B 5 1 v L.length (Lib.byteCells L)) (h0 : 0 < L.length) : (convert 74 9 v).run Tryd.prog W = .ok (.string (M.str L)) W := by
  rcases h.2 with ⟨_, h2⟩ | ⟨g, cap, cur, rfl, _⟩
  · omega
  · refine run_convert_bytes_back W _ _ 5 ⟨g, 0, none⟩ cap L Tryd.underlying74 Tryd.underlying5 Tryd.underlying9 ?_
    intro j hj
    rw [Addr.add_lit, Nat.zero_add, h.cellAt j (by omega)]
    unfold Lib.byteCells
    rw [List.getElem?_map, List.getElem?_eq_getElem hj]
    rfl
theorem txt_pos {A : List M.Tm} (hA : M.Ok A) {i : Nat} (hi : i < A.length) : 0 < (M.txt A i).length := by
  have hm := (hA.2 i hi).1
  rcases M.may_kind hm with ⟨k1, _⟩ | ⟨k1, _⟩ | ⟨k1, _⟩
  · rw [M.txt_atom hm k1]; simp
  · rw [M.txt_one hm (by omega) (by omega)]; simp; omega
  · rw [M.txt_two hm k1]; simp
set_option maxRecDepth 100000 in
set_option maxHeartbeats 4000000 in
theorem text_any (A : List M.Tm) (i : Int) (v : Value) (w : World) (hT : Tab w) (u : Ts w v A) :
    Calls Tryd.prog 16 #[v, .int .i64 i] w fun e w' => e = .returned (.tuple #[.string (M.str (M.textV A i)), .int .i64 (M.textE A i)]) ∧ Below w.heap.size w w' := by
  have U0 := hidq u
  have EN := hidq (show Env A v w.heap.size w from fun X hb => ⟨hT.below hb, u.below hb⟩)
  by_cases ht : M.thr A i = true
  · obtain ⟨hA, h0, h1⟩ := M.thr_iff.1 ht
    obtain ⟨m, rfl⟩ : ∃ m : Nat, i = m := ⟨i.toNat, by omega⟩
    have HE : Hid (M.deepE A m = 0) := if_pos ht
    have hp := txt_pos hA (i := m) (by omega)
    obtain ⟨ao, cap, rfl, q1, q2, q4⟩ := u.form
    obtain ⟨b, off, rfl⟩ := q4 (by omega)
    have AC := hidq (app_any A hA b off cap w.heap.size (m + 1) m (by omega) (by omega))
    by_cases hl : (M.txt A m).length ≤ 65536
    · have e1 : M.textE A m = 0 := by unfold M.textE; rw [if_pos ht, Int.toNat_natCast, if_pos hl]
      have e2 : M.textV A m = M.txt A m := by unfold M.textV; rw [if_pos e1, Int.toNat_natCast]
      rw [e1, e2]
      unfold AppC AppQ at AC
      obtain ⟨T, hTT⟩ : ∃ T, M.txt A m = T := ⟨_, rfl⟩
      rw [hTT] at AC hl hp ⊢
      have HL := hidq hl
      have HP := hidq hp
      have hli : ¬ (65536 : Int) < T.length := by omega
      clear u hT ht hA h0 h1 q4 e1 e2 hTT hl hp
      go_enter Tryd.func16, Tryd.ntmps16
      go_wp2_with (first | (go_at_call 32; refine (checkPlace_eq HE.out _ U0.out).mono ?_; rintro r w1 ⟨rfl, hb1⟩; have B1 := hidq hb1; have S1 := hidq hb1.size; have E1 := hidq (EN.out.on hb1); clear hb1) | (go_at_call 33; refine (AC.out [] _ _ (World.ownsRow_nil _ _ _ _) S1.out (by simp) E1.out).mono ?_; rintro r w2 ⟨v2, ys, rfl, ho2, hr2, hb2, _⟩; obtain rfl : ys = T := (by have := hr2.2.1 (by simpa using HL.out); simpa using this); have hcv := conv_own ho2 HP.out; obtain ⟨ao2, cap2, rfl, hs2⟩ := own_formq ho2; have B2 := hidq (B1.out.trans hb2); clear ho2 hr2 hb2 hs2))
      go_ret2
      exact ⟨rfl, B2.out⟩
    · have e1 : M.textE A m = 3 := by unfold M.textE; rw [if_pos ht, Int.toNat_natCast, if_neg hl]
      have e2 : M.textV A m = [] := by unfold M.textV; rw [if_neg (by rw [e1]; decide)]
      rw [e1, e2]
      unfold AppC AppQ at AC
      have HL := hidq (show 65536 < ([] : List UInt8).length + (M.txt A m).length by simp; omega)
      clear u hT ht hA h0 h1 q4 e1 e2 hl hp
      have hst : M.str [] = ⟨#[]⟩ := rfl
      rw [hst]
      go_enter Tryd.func16, Tryd.ntmps16
      go_wp2_with (first | (go_at_call 32; refine (checkPlace_eq HE.out _ U0.out).mono ?_; rintro r w1 ⟨rfl, hb1⟩; have B1 := hidq hb1; have S1 := hidq hb1.size; have E1 := hidq (EN.out.on hb1); clear hb1) | (go_at_call 33; refine (AC.out [] _ _ (World.ownsRow_nil _ _ _ _) S1.out (by simp) E1.out).mono ?_; rintro r w2 ⟨v2, ys, rfl, ho2, hr2, hb2, _⟩; have hy : (65536 : Int) < ys.length := (by have := hr2.2.2.1 HL.out; omega); obtain ⟨ao2, cap2, rfl, hs2⟩ := own_formq ho2; have B2 := hidq (B1.out.trans hb2); clear ho2 hr2 hb2 hs2))
      go_ret2
      exact ⟨rfl, B2.out⟩
  · have e1 : M.textE A i = 1 := by unfold M.textE; rw [if_neg ht]
    have e2 : M.textV A i = [] := by unfold M.textV; rw [if_neg (by rw [e1]; decide)]
    have HE : Hid (M.deepE A i = 1) := if_neg ht
    rw [e1, e2]
    clear u hT ht e1 e2
    have hst : M.str [] = ⟨#[]⟩ := rfl
    rw [hst]
    go_enter Tryd.func16, Tryd.ntmps16
    go_wp2_with (first | (go_at_call 32; refine (checkPlace_eq HE.out _ U0.out).mono ?_; rintro r w1 ⟨rfl, hb1⟩; have B1 := hidq hb1; have S1 := hidq hb1.size; have E1 := hidq (EN.out.on hb1); clear hb1))
    go_ret2
    exact ⟨rfl, B1.out⟩
set_option maxRecDepth 100000 in
theorem text_eq {A : List M.Tm} {i n : Int} {T : List UInt8} (h : M.textV A i = T) (hn : M.textE A i = n) {v : Value} (w : World) (hT : Tab w) (u : Ts w v A) :
    Calls Tryd.prog 16 #[v, .int .i64 i] w fun e w' => e = .returned (.tuple #[.string (M.str T), .int .i64 n]) ∧ Below w.heap.size w w' := by subst h; subst hn; exact text_any A i v w hT u
end Go.Proofs.YtomhccendbnamaaDoor
namespace Go.Proofs.YtomhccendbnamaaDoor
open Go.RowKit
/-- an array of strings that reads as a table holds its strings -/
theorem cells_of_strs13 {H : Type} {enc : TypeId × Value → H} {P : Program} {w : World} {base : Nat} {sp : Nat → Bool} {held : Bool} {fuel : Nat} {t e : TypeId} {n : Nat} {cs : List Value} {zs : List (List UInt8)} {p : List MemPlace}
    (ht : P.underlying t = some (.array n e)) (he : P.underlying e = some .string) (hce : P.cellsOf e = 1) (hct : P.cellsOf t = n)
    (h : DataW.trod enc P w base sp held fuel t cs = some (.agg (zs.map fun z => .lit (.string z)), p)) : cs = zs.map fun z => Value.string ⟨z.toArray⟩ := by
  cases fuel with
  | zero => simp [DataW.trod] at h
  | succ fuel =>
    simp only [DataW.trod, ht, hce, hct, Nat.mul_one] at h
    split at h
    · rename_i hl
      obtain ⟨xs, hm, hx⟩ := Option.map_eq_some_iff.1 h
      have hxs : xs.map (·.1) = zs.map fun z => (DataW.lit (.string z) : DataW H) := by
        have := congrArg Prod.fst hx
        simpa using this
      have hxl : xs.length = n := by simpa using Lib.mapM_length hm
      have hzl : zs.length = n := by
        have := congrArg List.length hxs
        simp at this
        omega
      apply List.ext_getElem?
      intro i
      by_cases hi : i < n
      · obtain ⟨b, hb, hf⟩ := Lib.mapM_at hm i i (by simp [hi])
        obtain ⟨s, hc, rfl, _⟩ := DataW.trod_string he hf
        have h1 : cs[i]? = some (.string s) := by
          have := congrArg (·[0]?) hc
          simpa [List.getElem?_take, List.getElem?_drop] using this
        have h2 : (xs.map (·.1))[i]? = some (DataW.lit (.string s.data.toList) : DataW H) := by simp [hb]
        rw [hxs] at h2
        simp only [List.getElem?_map, Option.map_eq_some_iff, DataW.lit.injEq, Lit.string.injEq] at h2
        obtain ⟨z', hz', e⟩ := h2
        rw [h1, List.getElem?_map, hz', Option.map_some, e]
      · rw [List.getElem?_eq_none (by omega), List.getElem?_eq_none (by simp; omega)]
    · cases h
theorem gPow : Tryd.prog.globalNamed "internal/strconv.uint64pow10" = some 1 := by kernel_rfl
set_option maxRecDepth 100000 in
theorem gPowType : (Tryd.prog.globals[1]?).map (·.type) = some 140 := by kernel_rfl
set_option maxRecDepth 100000 in
theorem gBegType : (Tryd.prog.globals[0]?).map (·.type) = some 97 := by kernel_rfl
set_option maxRecDepth 100000 in
theorem labelWalks_tab {W : World} (h : laidMetH Tryd.prog Rows.labelWalksRow.laid W) : Tab W := by
  rw [MakeChecks.laidMetH_plain _ _ _ (by kernel_rfl)] at h
  obtain ⟨ps, ⟨g0, t0, cs0, f0, p0, q0, hg0, ht0, hv0, hd0, ⟨g1, t1, cs1, f1, p1, q1, hg1, ht1, hv1, hd1, ⟨g2, t2, cs2, f2, p2, q2, hg2, ht2, hv2, hd2, ⟨g3, t3, cs3, f3, p3, q3, hg3, ht3, hv3, hd3, _, _⟩, _⟩, _⟩, _⟩, _⟩ := h
  obtain rfl := Option.some.inj (gPow.symm.trans hg2)
  obtain rfl := Option.some.inj (gBeg.symm.trans hg3)
  obtain rfl := Option.some.inj (gPowType.symm.trans ht2)
  obtain rfl := Option.some.inj (gBegType.symm.trans ht3)
  refine ⟨?_, ?_⟩
  · unfold Lib.TabIs
    rw [hv2, ← Lib.cells_of_tab (k := .u64) (zs := Lib.pow10Tab) Tryd.underlying140 Tryd.underlying23 (by kernel_rfl) (by kernel_rfl) hd2]
  · rw [hv3]
    have := cells_of_strs13 (zs := [[], [97], [76, 40], [82, 40], [75, 40], [87, 40]]) Tryd.underlying97 Tryd.underlying9 (by kernel_rfl) (by kernel_rfl) hd3
    obtain ⟨l⟩ := cs3
    dsimp only at this
    rw [this]
    rfl
set_option maxRecDepth 100000 in
theorem labelApart_tab {W : World} (h : laidMetH Tryd.prog Rows.labelApartRow.laid W) : Tab W := by
  rw [MakeChecks.laidMetH_plain _ _ _ (by kernel_rfl)] at h
  obtain ⟨ps, ⟨g0, t0, cs0, f0, p0, q0, hg0, ht0, hv0, hd0, ⟨g1, t1, cs1, f1, p1, q1, hg1, ht1, hv1, hd1, ⟨g2, t2, cs2, f2, p2, q2, hg2, ht2, hv2, hd2, ⟨g3, t3, cs3, f3, p3, q3, hg3, ht3, hv3, hd3, _, _⟩, _⟩, _⟩, _⟩, _⟩ := h
  obtain rfl := Option.some.inj (gPow.symm.trans hg2)
  obtain rfl := Option.some.inj (gBeg.symm.trans hg3)
  obtain rfl := Option.some.inj (gPowType.symm.trans ht2)
  obtain rfl := Option.some.inj (gBegType.symm.trans ht3)
  refine ⟨?_, ?_⟩
  · unfold Lib.TabIs
    rw [hv2, ← Lib.cells_of_tab (k := .u64) (zs := Lib.pow10Tab) Tryd.underlying140 Tryd.underlying23 (by kernel_rfl) (by kernel_rfl) hd2]
  · rw [hv3]
    have := cells_of_strs13 (zs := [[], [97], [76, 40], [82, 40], [75, 40], [87, 40]]) Tryd.underlying97 Tryd.underlying9 (by kernel_rfl) (by kernel_rfl) hd3
    obtain ⟨l⟩ := cs3
    dsimp only at this
    rw [this]
    rfl
set_option maxRecDepth 100000 in
theorem labelStands_tab {W : World} (h : laidMetH Tryd.prog Rows.labelStandsRow.laid W) : Tab W := by
  rw [MakeChecks.laidMetH_plain _ _ _ (by kernel_rfl)] at h
  obtain ⟨ps, ⟨g0, t0, cs0, f0, p0, q0, hg0, ht0, hv0, hd0, ⟨g1, t1, cs1, f1, p1, q1, hg1, ht1, hv1, hd1, ⟨g2, t2, cs2, f2, p2, q2, hg2, ht2, hv2, hd2, ⟨g3, t3, cs3, f3, p3, q3, hg3, ht3, hv3, hd3, _, _⟩, _⟩, _⟩, _⟩, _⟩ := h
  obtain rfl := Option.some.inj (gPow.symm.trans hg2)
  obtain rfl := Option.some.inj (gBeg.symm.trans hg3)
  obtain rfl := Option.some.inj (gPowType.symm.trans ht2)
  obtain rfl := Option.some.inj (gBegType.symm.trans ht3)
  refine ⟨?_, ?_⟩
  · unfold Lib.TabIs
    rw [hv2, ← Lib.cells_of_tab (k := .u64) (zs := Lib.pow10Tab) Tryd.underlying140 Tryd.underlying23 (by kernel_rfl) (by kernel_rfl) hd2]
  · rw [hv3]
    have := cells_of_strs13 (zs := [[], [97], [76, 40], [82, 40], [75, 40], [87, 40]]) Tryd.underlying97 Tryd.underlying9 (by kernel_rfl) (by kernel_rfl) hd3
    obtain ⟨l⟩ := cs3
    dsimp only at this
    rw [this]
    rfl
set_option maxRecDepth 100000 in
theorem labelUp_tab {W : World} (h : laidMetH Tryd.prog Rows.labelUpRow.laid W) : Tab W := by
  rw [MakeChecks.laidMetH_plain _ _ _ (by kernel_rfl)] at h
  obtain ⟨ps, ⟨g0, t0, cs0, f0, p0, q0, hg0, ht0, hv0, hd0, ⟨g1, t1, cs1, f1, p1, q1, hg1, ht1, hv1, hd1, ⟨g2, t2, cs2, f2, p2, q2, hg2, ht2, hv2, hd2, ⟨g3, t3, cs3, f3, p3, q3, hg3, ht3, hv3, hd3, _, _⟩, _⟩, _⟩, _⟩, _⟩ := h
  obtain rfl := Option.some.inj (gPow.symm.trans hg2)
  obtain rfl := Option.some.inj (gBeg.symm.trans hg3)
  obtain rfl := Option.some.inj (gPowType.symm.trans ht2)
  obtain rfl := Option.some.inj (gBegType.symm.trans ht3)
  refine ⟨?_, ?_⟩
  · unfold Lib.TabIs
    rw [hv2, ← Lib.cells_of_tab (k := .u64) (zs := Lib.pow10Tab) Tryd.underlying140 Tryd.underlying23 (by kernel_rfl) (by kernel_rfl) hd2]
  · rw [hv3]
    have := cells_of_strs13 (zs := [[], [97], [76, 40], [82, 40], [75, 40], [87, 40]]) Tryd.underlying97 Tryd.underlying9 (by kernel_rfl) (by kernel_rfl) hd3
    obtain ⟨l⟩ := cs3
    dsimp only at this
    rw [this]
    rfl
end Go.Proofs.YtomhccendbnamaaDoor
