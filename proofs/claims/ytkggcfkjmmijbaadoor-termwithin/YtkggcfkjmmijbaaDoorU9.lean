/-
  The walks of the program's appendText, by the kind of the term. Conditions: each theorem's own premises.
-/
import Derived.Test.YtkggcfkjmmijbaaDoorU8
namespace Go.Proofs.YtkggcfkjmmijbaaDoor
open Go.RowKit
theorem str_cells (l : List UInt8) : Lib.strCells ⟨l.toArray⟩ = Lib.byteCells l := rfl
theorem bc_append (a b : List UInt8) : Lib.byteCells a ++ Lib.byteCells b = Lib.byteCells (a ++ b) := by simp [Lib.byteCells]
set_option maxRecDepth 100000 in
set_option maxHeartbeats 4000000 in
theorem app_atom (A : List M.Tm) (a i : Nat) (d : Int) (b off n cap B : Nat) (xs : List UInt8) (sv : Value) (w : World) (hin : i < n) (hown : w.ownsRow B 5 1 sv xs.length (Lib.byteCells xs)) (hB : B ≤ w.heap.size) (hx : xs.length ≤ 65536) (henv : Env A (.slice (some ⟨b, off, none⟩) n cap) B w)
    (x1 : w.cell? ⟨b, off + i * 3, none⟩ = some (.int .i64 1)) (x2 : w.cell? ⟨b, off + i * 3 + 1, none⟩ = some (.int .i64 a)) (x3 : w.cell? ⟨b, off + i * 3 + 2, none⟩ = some (.int .i64 d)) (ha : a ≤ 1048576) (T : List UInt8) (hT : T = 97 :: Lib.decDigits a) :
    Calls Tryd.prog 33 #[sv, .slice (some ⟨b, off, none⟩) n cap, .int .i64 i] w fun e w' => AppQ T i xs B w e w' := by
  obtain ⟨i0, hi, hz0, hz1, hz2⟩ := info_partsq Tryd.infoByteq
  obtain ⟨k, hk⟩ : ∃ k : Int, k = 1 := ⟨_, rfl⟩
  have B0 := hidq ((Below.refl B w).alloc hB (.cells #[.int .i64 k, .int .i64 a, .int .i64 d] 24))
  have t1 : (w.alloc (.cells #[.int .i64 k, .int .i64 a, .int .i64 d] 24)).cell? ⟨0, 1, none⟩ = some (.string ⟨#[97]⟩) := (henv _ B0.out).1.cell 1
  have O0 := hidq (hown.alloc (.cells #[.int .i64 k, .int .i64 a, .int .i64 d] 24))
  have S0 := hidq (show B ≤ (w.alloc (.cells #[.int .i64 k, .int .i64 a, .int .i64 d] 24)).heap.size by simp; omega)
  have X0 := hidq (Bx3.new w (k, a, d))
  subst hk
  obtain ⟨ao, cp, rfl, hs⟩ := own_formq hown
  have hxi : ¬ (65536 : Int) < xs.length := by omega
  have hini : (i : Int) < n := by omega
  have hdl : (Lib.decDigits a).length ≤ 20 := by rw [Lib.decDigits_length]; exact Lib.nDigits_le20 a (by omega)
  have hsz : (⟨#[97]⟩ : ByteArray).size = 1 := rfl
  have HD := hidq hdl
  have HT := hidq hT
  clear hown hs hdl hT
  have henv := hidq henv
  go_enter Tryd.func33, Tryd.ntmps33
  go_wp2_with (first | (at_builtin; refine Lib.wpList_append_own_string _ rfl _ _ 54 9 rfl B 5 i0 Tryd.underlying54 Tryd.underlying9 hi hz0 hz1 hz2 _ _ _ rfl O0.out _ rfl (by rw [hsz]; unfold maxLen; omega) (by rw [hsz]; omega) S0.out ?_; intro v1 w1 ho1 hg1 _; have K1 := hidq ((oth_alloc _ w _).trans (oth_append O0.out hg1)); have X1 := hidq (X0.out.oth (oth_append O0.out hg1)); have c1 := X1.out.cells; have B1 := hidq (B0.out.grown hg1 S0.out (fun q hq => (O0.out.lt q hq).1)); have E1 := hidq (henv.out.on B1.out); have S1 := hidq (Nat.le_trans hB B1.out.size); have O1 := hidq ho1; clear ho1 hg1) | (go_at_call 41; refine (Tryd.strconv_AppendInt_10 B _ a (by omega) (by omega) _ _ _ O1.out S1.out (by rw [hsz]; omega) E1.out.pow).mono ?_; rintro r w2 ⟨v2, rfl, ho2, hb2, hk2⟩; have O2 := hidq ho2; have B2 := hidq (B1.out.trans hb2); have K2 := hidq (K1.out.trans hk2); clear ho2 hb2 hk2))
  go_ret
  refine ⟨_, xs ++ T, rfl, ?_, ⟨fun h => by omega, fun _ => rfl, fun h => by rw [List.length_append]; exact h, fun _ => ?_⟩, B2.out, K2.out⟩
  · have h := O2.out
    rw [Lib.itoa_nonneg, str_cells [97], bc_append, bc_append, List.append_assoc, show ([97] : List UInt8) ++ Lib.decDigits a = T by rw [HT.out]; rfl] at h
    rw [List.length_append, HT.out]
    rw [hsz] at h
    rw [show xs.length + (97 :: Lib.decDigits a).length = xs.length + 1 + (Lib.decDigits a).length by simp; omega]
    rw [HT.out] at h
    exact h
  · rw [List.length_append, HT.out, List.length_cons]
    have := HD.out
    omega
theorem M.appR_le {T xs ys : List UInt8} {m : Nat} (h : M.AppR T m xs ys) (hm : 65538 ≤ m) (hx : xs.length ≤ 65538) : ys.length ≤ m := by
  obtain ⟨h1, h2, h3, h4⟩ := h
  by_cases hl : xs.length ≤ 65536
  · exact h4 hl
  · rw [h1 (by omega)]; omega
theorem M.appR_one {xs ys H ta : List UInt8} {a i : Nat} (hH : H.length = 2) (hai : a < i) (hx : xs.length ≤ 65536) (h : M.AppR ta (65560 + 2 * a) (xs ++ H) ys) : M.AppR (H ++ ta ++ [41]) (65560 + 2 * i) xs (ys ++ [41]) := by
  have hle := M.appR_le h (by omega) (by rw [List.length_append]; omega)
  obtain ⟨h1, h2, h3, h4⟩ := h
  rw [List.length_append, hH] at h1 h2 h3 h4
  refine ⟨fun h => by omega, fun h => ?_, fun h => ?_, fun _ => ?_⟩
  · simp only [List.length_append, List.length_cons, List.length_nil, hH] at h
    rw [h2 (by omega)]
    simp
  · simp only [List.length_append, List.length_cons, List.length_nil, hH] at h
    rw [List.length_append]
    by_cases hc : xs.length + 2 + ta.length ≤ 65536
    · rw [h2 hc]
      simp only [List.length_append, List.length_cons, List.length_nil, hH]
      omega
    · have := h3 (by omega)
      simp only [List.length_cons, List.length_nil]
      omega
  · simp only [List.length_append, List.length_cons, List.length_nil]
    omega
theorem M.appR_two {xs ys zs H ta td : List UInt8} {a d i : Nat} (hH : H.length = 2) (hai : a < i) (hdi : d < i) (hx : xs.length ≤ 65536) (h : M.AppR ta (65560 + 2 * a) (xs ++ H) ys) (g : M.AppR td (65560 + 2 * d) (ys ++ [44]) zs) : M.AppR (H ++ ta ++ 44 :: td ++ [41]) (65560 + 2 * i) xs (zs ++ [41]) ∧ zs.length ≤ 65561 + 2 * i := by
  have hle := M.appR_le h (by omega) (by rw [List.length_append]; omega)
  obtain ⟨h1, h2, h3, h4⟩ := h
  rw [List.length_append, hH] at h1 h2 h3 h4
  obtain ⟨g1, g2, g3, g4⟩ := g
  have el : (ys ++ [44]).length = ys.length + 1 := by simp
  rw [el] at g1 g2 g3 g4
  have hz : zs.length ≤ 65560 + 2 * i - 1 := by
    by_cases hl : ys.length + 1 ≤ 65536
    · have := g4 hl; omega
    · rw [g1 (by omega), el]; omega
  refine ⟨⟨fun h => by omega, fun h => ?_, fun h => ?_, fun _ => ?_⟩, by omega⟩
  · simp only [List.length_append, List.length_cons, List.length_nil, hH] at h
    have e1 := h2 (by omega)
    have l1 : ys.length = xs.length + 2 + ta.length := by rw [e1]; simp only [List.length_append, hH]
    rw [g2 (by omega), e1]
    simp
  · simp only [List.length_append, List.length_cons, List.length_nil, hH] at h
    have el2 : (zs ++ [41]).length = zs.length + 1 := by simp
    rw [el2]
    by_cases hc : ys.length + 1 + td.length ≤ 65536
    · have e2 : zs.length = ys.length + 1 + td.length := by rw [g2 hc, List.length_append, el]
      by_cases hc2 : xs.length + 2 + ta.length ≤ 65536
      · have l1 : ys.length = xs.length + 2 + ta.length := by rw [h2 hc2]; simp only [List.length_append, hH]
        omega
      · have := h3 (by omega)
        omega
    · have := g3 (by omega)
      omega
  · rw [List.length_append]
    simp only [List.length_cons, List.length_nil]
    omega
/-- one octet in a new block -/
theorem oct_cells (w : World) (c : Int) (j : Nat) (u : Value) (hj : ([Value.int .u8 c] : List Value)[j]? = some u) : (w.alloc (.cells #[.int .u8 c] 5)).cell? ((⟨w.heap.size, 0, none⟩ : Addr).add j) = some u := by
  match j, hj with
  | 0, hj => simp at hj; subst hj; simp [Addr.add]
theorem own_end {B : Nat} {v : Value} {ys : List UInt8} {c : UInt8} {W : World} (h : W.ownsRow B 5 1 v (ys.length + 1) (Lib.byteCells ys ++ [Value.int .u8 c.toNat])) : W.ownsRow B 5 1 v (ys ++ [c]).length (Lib.byteCells (ys ++ [c])) := by
  rw [← bc_append, List.length_append]; exact h
set_option maxRecDepth 100000 in
set_option maxHeartbeats 4000000 in
theorem app_one (A : List M.Tm) (k : Int) (a i : Nat) (d : Int) (c0 : UInt8) (hk : (k = 2 ∧ c0 = 76) ∨ (k = 3 ∧ c0 = 82) ∨ (k = 4 ∧ c0 = 75)) (b off n cap B : Nat) (xs : List UInt8) (sv : Value) (w : World) (hin : i < n) (hn : n ≤ 65536) (hai : a < i) (hown : w.ownsRow B 5 1 sv xs.length (Lib.byteCells xs)) (hB : B ≤ w.heap.size) (hx : xs.length ≤ 65536) (henv : Env A (.slice (some ⟨b, off, none⟩) n cap) B w)
    (x1 : w.cell? ⟨b, off + i * 3, none⟩ = some (.int .i64 k)) (x2 : w.cell? ⟨b, off + i * 3 + 1, none⟩ = some (.int .i64 a)) (x3 : w.cell? ⟨b, off + i * 3 + 2, none⟩ = some (.int .i64 d)) (ih : AppC A (.slice (some ⟨b, off, none⟩) n cap) B a) (T : List UInt8) (hT : T = [c0, 40] ++ M.txt A a ++ [41]) :
    Calls Tryd.prog 33 #[sv, .slice (some ⟨b, off, none⟩) n cap, .int .i64 i] w fun e w' => AppQ T i xs B w e w' := by
  obtain ⟨i0, hi, hz0, hz1, hz2⟩ := info_partsq Tryd.infoByteq
  have B0 := hidq ((Below.refl B w).alloc hB (.cells #[.int .i64 k, .int .i64 a, .int .i64 d] 24))
  have TC := hidq (fun j => (henv _ B0.out).1.cell j)
  have O0 := hidq (hown.alloc (.cells #[.int .i64 k, .int .i64 a, .int .i64 d] 24))
  have S0 := hidq (show B ≤ (w.alloc (.cells #[.int .i64 k, .int .i64 a, .int .i64 d] 24)).heap.size by simp; omega)
  have X0 := hidq (Bx3.new w (k, a, d))
  obtain ⟨ao, cp, rfl, hs⟩ := own_formq hown
  have hxi : ¬ (65536 : Int) < xs.length := by omega
  have hini : (i : Int) < n := by omega
  have hsz : (⟨#[c0, 40]⟩ : ByteArray).size = 2 := rfl
  have HH := hidq (show ∀ (W : World) (v : Value), W.ownsRow B 5 1 v (xs.length + (⟨#[c0, 40]⟩ : ByteArray).size) (Lib.byteCells xs ++ Lib.strCells ⟨#[c0, 40]⟩) → W.ownsRow B 5 1 v (xs ++ [c0, 40]).length (Lib.byteCells (xs ++ [c0, 40])) from fun W v h => by
    rw [str_cells [c0, 40], bc_append] at h
    rw [List.length_append]; exact h)
  have HL := hidq (show (xs ++ [c0, 40]).length ≤ 300000 by simp; omega)
  have HL2 := hidq (show (xs ++ [c0, 40]).length ≤ 65538 by simp; omega)
  have HR := hidq (fun ys => M.appR_one (xs := xs) (ys := ys) (H := [c0, 40]) (ta := M.txt A a) (a := a) (i := i) rfl hai hx)
  rw [← hT] at HR
  have IH := hidq ih
  clear hown hs hT ih
  have henv := hidq henv
  have T1 := hidq trivial
  rcases hk with ⟨rfl, rfl⟩ | ⟨rfl, rfl⟩ | ⟨rfl, rfl⟩
  · have t1 : (w.alloc (.cells #[.int .i64 2, .int .i64 a, .int .i64 d] 24)).cell? ⟨0, 2, none⟩ = some (.string ⟨#[76, 40]⟩) := TC.out 2
    go_enter Tryd.func33, Tryd.ntmps33
    go_wp2_with (first | (at_builtin; refine Lib.wpList_append_own_string _ rfl _ _ 54 9 rfl B 5 i0 Tryd.underlying54 Tryd.underlying9 hi hz0 hz1 hz2 _ _ _ rfl O0.out _ rfl (by rw [hsz]; unfold maxLen; omega) (by rw [hsz]; omega) S0.out ?_; intro v1 w1 ho1 hg1 _; have K1 := hidq ((oth_alloc _ w _).trans (oth_append O0.out hg1)); have X1 := hidq (X0.out.oth (oth_append O0.out hg1)); have c1 := X1.out.cells; have B1 := hidq (B0.out.grown hg1 S0.out (fun q hq => (O0.out.lt q hq).1)); have E1 := hidq (henv.out.on B1.out); have S1 := hidq (Nat.le_trans hB B1.out.size); have O1 := hidq (HH.out _ _ ho1); clear ho1 hg1) | (go_at_call 33; clear T1; refine (IH.out _ _ _ O1.out S1.out HL.out E1.out).mono ?_; rintro r w2 ⟨v2, ys, rfl, ho2, hr2, hb2, hk2⟩; have O2 := hidq (ho2.alloc (.cells #[.int .u8 41] 5)); have R2 := hidq hr2; have B2 := hidq ((B1.out.trans hb2).alloc (Nat.le_trans S1.out hb2.size) (.cells #[.int .u8 41] 5)); have S2 := hidq (show B ≤ (w2.alloc (.cells #[.int .u8 41] 5)).heap.size from Nat.le_trans hB B2.out.size); have K2 := hidq ((K1.out.trans hk2).trans (oth_alloc _ w2 (.cells #[.int .u8 41] 5))); have X2 := hidq ((X1.out.oth hk2).alloc (.cells #[.int .u8 41] 5)); have cc2 := (X1.out.oth hk2).cells; have c2 := X2.out.cells; have L2 := hidq (M.appR_le hr2 (by omega) HL2.out); have G2 := hidq (oct_cells w2 41); clear ho2 hr2 hb2 hk2) | (at_builtin; refine wpList_append_own _ rfl _ _ 54 rfl B 5 i0 (.int .u8 0) 1 1 Tryd.underlying54 hi hz0 hz1 hz2 rfl (by decide) _ _ _ rfl O2.out ⟨w2.heap.size, 0, none⟩ 1 1 [Value.int .u8 41] rfl rfl G2.out (by intro u' hu'; simp at hu'; subst hu'; rfl) (by have := L2.out; unfold maxLen; omega) (by have := L2.out; omega) S2.out ?_; intro v3 w3 ho3 hg3 _; have K3 := hidq (K2.out.trans (oth_append O2.out hg3)); have B3 := hidq (B2.out.grown hg3 S2.out (fun q hq => (O2.out.lt q hq).1)); have O3 := hidq ho3; clear ho3 hg3))
    go_ret
    exact ⟨_, ys ++ [41], rfl, own_end O3.out, HR.out _ R2.out, B3.out, K3.out⟩
  · have t1 : (w.alloc (.cells #[.int .i64 3, .int .i64 a, .int .i64 d] 24)).cell? ⟨0, 3, none⟩ = some (.string ⟨#[82, 40]⟩) := TC.out 3
    go_enter Tryd.func33, Tryd.ntmps33
    go_wp2_with (first | (at_builtin; refine Lib.wpList_append_own_string _ rfl _ _ 54 9 rfl B 5 i0 Tryd.underlying54 Tryd.underlying9 hi hz0 hz1 hz2 _ _ _ rfl O0.out _ rfl (by rw [hsz]; unfold maxLen; omega) (by rw [hsz]; omega) S0.out ?_; intro v1 w1 ho1 hg1 _; have K1 := hidq ((oth_alloc _ w _).trans (oth_append O0.out hg1)); have X1 := hidq (X0.out.oth (oth_append O0.out hg1)); have c1 := X1.out.cells; have B1 := hidq (B0.out.grown hg1 S0.out (fun q hq => (O0.out.lt q hq).1)); have E1 := hidq (henv.out.on B1.out); have S1 := hidq (Nat.le_trans hB B1.out.size); have O1 := hidq (HH.out _ _ ho1); clear ho1 hg1) | (go_at_call 33; clear T1; refine (IH.out _ _ _ O1.out S1.out HL.out E1.out).mono ?_; rintro r w2 ⟨v2, ys, rfl, ho2, hr2, hb2, hk2⟩; have O2 := hidq (ho2.alloc (.cells #[.int .u8 41] 5)); have R2 := hidq hr2; have B2 := hidq ((B1.out.trans hb2).alloc (Nat.le_trans S1.out hb2.size) (.cells #[.int .u8 41] 5)); have S2 := hidq (show B ≤ (w2.alloc (.cells #[.int .u8 41] 5)).heap.size from Nat.le_trans hB B2.out.size); have K2 := hidq ((K1.out.trans hk2).trans (oth_alloc _ w2 (.cells #[.int .u8 41] 5))); have X2 := hidq ((X1.out.oth hk2).alloc (.cells #[.int .u8 41] 5)); have cc2 := (X1.out.oth hk2).cells; have c2 := X2.out.cells; have L2 := hidq (M.appR_le hr2 (by omega) HL2.out); have G2 := hidq (oct_cells w2 41); clear ho2 hr2 hb2 hk2) | (at_builtin; refine wpList_append_own _ rfl _ _ 54 rfl B 5 i0 (.int .u8 0) 1 1 Tryd.underlying54 hi hz0 hz1 hz2 rfl (by decide) _ _ _ rfl O2.out ⟨w2.heap.size, 0, none⟩ 1 1 [Value.int .u8 41] rfl rfl G2.out (by intro u' hu'; simp at hu'; subst hu'; rfl) (by have := L2.out; unfold maxLen; omega) (by have := L2.out; omega) S2.out ?_; intro v3 w3 ho3 hg3 _; have K3 := hidq (K2.out.trans (oth_append O2.out hg3)); have B3 := hidq (B2.out.grown hg3 S2.out (fun q hq => (O2.out.lt q hq).1)); have O3 := hidq ho3; clear ho3 hg3))
    go_ret
    exact ⟨_, ys ++ [41], rfl, own_end O3.out, HR.out _ R2.out, B3.out, K3.out⟩
  · have t1 : (w.alloc (.cells #[.int .i64 4, .int .i64 a, .int .i64 d] 24)).cell? ⟨0, 4, none⟩ = some (.string ⟨#[75, 40]⟩) := TC.out 4
    go_enter Tryd.func33, Tryd.ntmps33
    go_wp2_with (first | (at_builtin; refine Lib.wpList_append_own_string _ rfl _ _ 54 9 rfl B 5 i0 Tryd.underlying54 Tryd.underlying9 hi hz0 hz1 hz2 _ _ _ rfl O0.out _ rfl (by rw [hsz]; unfold maxLen; omega) (by rw [hsz]; omega) S0.out ?_; intro v1 w1 ho1 hg1 _; have K1 := hidq ((oth_alloc _ w _).trans (oth_append O0.out hg1)); have X1 := hidq (X0.out.oth (oth_append O0.out hg1)); have c1 := X1.out.cells; have B1 := hidq (B0.out.grown hg1 S0.out (fun q hq => (O0.out.lt q hq).1)); have E1 := hidq (henv.out.on B1.out); have S1 := hidq (Nat.le_trans hB B1.out.size); have O1 := hidq (HH.out _ _ ho1); clear ho1 hg1) | (go_at_call 33; clear T1; refine (IH.out _ _ _ O1.out S1.out HL.out E1.out).mono ?_; rintro r w2 ⟨v2, ys, rfl, ho2, hr2, hb2, hk2⟩; have O2 := hidq (ho2.alloc (.cells #[.int .u8 41] 5)); have R2 := hidq hr2; have B2 := hidq ((B1.out.trans hb2).alloc (Nat.le_trans S1.out hb2.size) (.cells #[.int .u8 41] 5)); have S2 := hidq (show B ≤ (w2.alloc (.cells #[.int .u8 41] 5)).heap.size from Nat.le_trans hB B2.out.size); have K2 := hidq ((K1.out.trans hk2).trans (oth_alloc _ w2 (.cells #[.int .u8 41] 5))); have X2 := hidq ((X1.out.oth hk2).alloc (.cells #[.int .u8 41] 5)); have cc2 := (X1.out.oth hk2).cells; have c2 := X2.out.cells; have L2 := hidq (M.appR_le hr2 (by omega) HL2.out); have G2 := hidq (oct_cells w2 41); clear ho2 hr2 hb2 hk2) | (at_builtin; refine wpList_append_own _ rfl _ _ 54 rfl B 5 i0 (.int .u8 0) 1 1 Tryd.underlying54 hi hz0 hz1 hz2 rfl (by decide) _ _ _ rfl O2.out ⟨w2.heap.size, 0, none⟩ 1 1 [Value.int .u8 41] rfl rfl G2.out (by intro u' hu'; simp at hu'; subst hu'; rfl) (by have := L2.out; unfold maxLen; omega) (by have := L2.out; omega) S2.out ?_; intro v3 w3 ho3 hg3 _; have K3 := hidq (K2.out.trans (oth_append O2.out hg3)); have B3 := hidq (B2.out.grown hg3 S2.out (fun q hq => (O2.out.lt q hq).1)); have O3 := hidq ho3; clear ho3 hg3))
    go_ret
    exact ⟨_, ys ++ [41], rfl, own_end O3.out, HR.out _ R2.out, B3.out, K3.out⟩
end Go.Proofs.YtkggcfkjmmijbaaDoor
