/-
  The program's appendText at every term. Conditions: each theorem's own premises.
-/
import Derived.Test.YtkggcfkjmmijbaaDoorU9
namespace Go.Proofs.YtkggcfkjmmijbaaDoor
open Go.RowKit
set_option maxRecDepth 100000 in
set_option maxHeartbeats 4000000 in
theorem app_two (A : List M.Tm) (a d i : Nat) (b off n cap B : Nat) (xs : List UInt8) (sv : Value) (w : World) (hin : i < n) (hn : n ≤ 65536) (hai : a < i) (hdi : d < i) (hown : w.ownsRow B 5 1 sv xs.length (Lib.byteCells xs)) (hB : B ≤ w.heap.size) (hx : xs.length ≤ 65536) (henv : Env A (.slice (some ⟨b, off, none⟩) n cap) B w)
    (x1 : w.cell? ⟨b, off + i * 3, none⟩ = some (.int .i64 5)) (x2 : w.cell? ⟨b, off + i * 3 + 1, none⟩ = some (.int .i64 a)) (x3 : w.cell? ⟨b, off + i * 3 + 2, none⟩ = some (.int .i64 d)) (ih : AppC A (.slice (some ⟨b, off, none⟩) n cap) B a) (jh : AppC A (.slice (some ⟨b, off, none⟩) n cap) B d) (T : List UInt8) (hT : T = [87, 40] ++ M.txt A a ++ 44 :: M.txt A d ++ [41]) :
    Calls Tryd.prog 33 #[sv, .slice (some ⟨b, off, none⟩) n cap, .int .i64 i] w fun e w' => AppQ T i xs B w e w' := by
  obtain ⟨i0, hi, hz0, hz1, hz2⟩ := info_partsq Tryd.infoByteq
  have B0 := hidq ((Below.refl B w).alloc hB (.cells #[.int .i64 5, .int .i64 a, .int .i64 d] 24))
  have t1 : (w.alloc (.cells #[.int .i64 5, .int .i64 a, .int .i64 d] 24)).cell? ⟨0, 5, none⟩ = some (.string ⟨#[87, 40]⟩) := (henv _ B0.out).1.cell 5
  have O0 := hidq (hown.alloc (.cells #[.int .i64 5, .int .i64 a, .int .i64 d] 24))
  have S0 := hidq (show B ≤ (w.alloc (.cells #[.int .i64 5, .int .i64 a, .int .i64 d] 24)).heap.size by simp; omega)
  have X0 := hidq (Bx3.new w (5, a, d))
  obtain ⟨ao, cp, rfl, hs⟩ := own_formq hown
  have hxi : ¬ (65536 : Int) < xs.length := by omega
  have hini : (i : Int) < n := by omega
  have hsz : (⟨#[87, 40]⟩ : ByteArray).size = 2 := rfl
  have HH := hidq (show ∀ (W : World) (v : Value), W.ownsRow B 5 1 v (xs.length + (⟨#[87, 40]⟩ : ByteArray).size) (Lib.byteCells xs ++ Lib.strCells ⟨#[87, 40]⟩) → W.ownsRow B 5 1 v (xs ++ [87, 40]).length (Lib.byteCells (xs ++ [87, 40])) from fun W v h => by
    rw [str_cells [87, 40], bc_append] at h
    rw [List.length_append]; exact h)
  have HL := hidq (show (xs ++ [87, 40]).length ≤ 300000 by simp; omega)
  have HL2 := hidq (show (xs ++ [87, 40]).length ≤ 65538 by simp; omega)
  have HR := hidq (fun ys zs => M.appR_two (xs := xs) (ys := ys) (zs := zs) (H := [87, 40]) (ta := M.txt A a) (td := M.txt A d) (a := a) (d := d) (i := i) rfl hai hdi hx)
  rw [← hT] at HR
  have IH := hidq ih
  have JH := hidq jh
  clear hown hs hT ih jh
  have henv := hidq henv
  have T1 := hidq trivial
  go_enter Tryd.func33, Tryd.ntmps33
  go_wp2_with (first | (at_builtin; refine Lib.wpList_append_own_string _ rfl _ _ 54 9 rfl B 5 i0 Tryd.underlying54 Tryd.underlying9 hi hz0 hz1 hz2 _ _ _ rfl O0.out _ rfl (by rw [hsz]; unfold maxLen; omega) (by rw [hsz]; omega) S0.out ?_; intro v1 w1 ho1 hg1 _; have K1 := hidq ((oth_alloc _ w _).trans (oth_append O0.out hg1)); have X1 := hidq (X0.out.oth (oth_append O0.out hg1)); have c1 := X1.out.cells; have B1 := hidq (B0.out.grown hg1 S0.out (fun q hq => (O0.out.lt q hq).1)); have E1 := hidq (henv.out.on B1.out); have S1 := hidq (Nat.le_trans hB B1.out.size); have O1 := hidq (HH.out _ _ ho1); clear ho1 hg1) | (go_at_call 33; clear T1; refine (IH.out _ _ _ O1.out S1.out HL.out E1.out).mono ?_; rintro r w2 ⟨v2, ys, rfl, ho2, hr2, hb2, hk2⟩; have O2 := hidq (ho2.alloc (.cells #[.int .u8 44] 5)); have R2 := hidq hr2; have B2 := hidq ((B1.out.trans hb2).alloc (Nat.le_trans S1.out hb2.size) (.cells #[.int .u8 44] 5)); have S2 := hidq (show B ≤ (w2.alloc (.cells #[.int .u8 44] 5)).heap.size from Nat.le_trans hB B2.out.size); have K2 := hidq ((K1.out.trans hk2).trans (oth_alloc _ w2 (.cells #[.int .u8 44] 5))); have X2 := hidq ((X1.out.oth hk2).alloc (.cells #[.int .u8 44] 5)); have cc2 := (X1.out.oth hk2).cells; have c2 := X2.out.cells; have L2 := hidq (M.appR_le hr2 (by omega) HL2.out); have G2 := hidq (oct_cells w2 44); clear ho2 hr2 hb2 hk2) | (at_builtin; refine wpList_append_own _ rfl _ _ 54 rfl B 5 i0 (.int .u8 0) 1 1 Tryd.underlying54 hi hz0 hz1 hz2 rfl (by decide) _ _ _ rfl O2.out ⟨w2.heap.size, 0, none⟩ 1 1 [Value.int .u8 44] rfl rfl G2.out (by intro u' hu'; simp at hu'; subst hu'; rfl) (by have := L2.out; unfold maxLen; omega) (by have := L2.out; omega) S2.out ?_; intro v3 w3 ho3 hg3 _; have K3 := hidq (K2.out.trans (oth_append O2.out hg3)); have B3 := hidq (B2.out.grown hg3 S2.out (fun q hq => (O2.out.lt q hq).1)); have O3 := hidq (own_end (c := 44) ho3); have E3 := hidq (henv.out.on B3.out); have S3 := hidq (Nat.le_trans hB B3.out.size); have X3 := hidq (X2.out.oth (oth_append O2.out hg3)); have c3 := X3.out.cells; have L3 := hidq (show (ys ++ [44]).length ≤ 300000 by have := L2.out; simp; omega); clear ho3 hg3) | (go_at_call 33; refine (JH.out _ _ _ O3.out S3.out L3.out E3.out).mono ?_; rintro r w4 ⟨v4, zs, rfl, ho4, hr4, hb4, hk4⟩; have O4 := hidq (ho4.alloc (.cells #[.int .u8 41] 5)); have R4 := hidq (HR.out _ _ R2.out hr4); have B4 := hidq ((B3.out.trans hb4).alloc (Nat.le_trans S3.out hb4.size) (.cells #[.int .u8 41] 5)); have S4 := hidq (show B ≤ (w4.alloc (.cells #[.int .u8 41] 5)).heap.size from Nat.le_trans hB B4.out.size); have K4 := hidq ((K3.out.trans hk4).trans (oth_alloc _ w4 (.cells #[.int .u8 41] 5))); have L4 := hidq R4.out.2; have G4 := hidq (oct_cells w4 41); clear ho4 hr4 hb4 hk4) | (at_builtin; refine wpList_append_own _ rfl _ _ 54 rfl B 5 i0 (.int .u8 0) 1 1 Tryd.underlying54 hi hz0 hz1 hz2 rfl (by decide) _ _ _ rfl O4.out ⟨w4.heap.size, 0, none⟩ 1 1 [Value.int .u8 41] rfl rfl G4.out (by intro u' hu'; simp at hu'; subst hu'; rfl) (by have := L4.out; unfold maxLen; omega) (by have := L4.out; omega) S4.out ?_; intro v5 w5 ho5 hg5 _; have K5 := hidq (K4.out.trans (oth_append O4.out hg5)); have B5 := hidq (B4.out.grown hg5 S4.out (fun q hq => (O4.out.lt q hq).1)); have O5 := hidq ho5; clear ho5 hg5))
  go_ret
  exact ⟨_, zs ++ [41], rfl, own_end O5.out, R4.out.1, B5.out, K5.out⟩
/-- every term's text -/
theorem app_any (A : List M.Tm) (hA : M.Ok A) (b off cap B : Nat) : ∀ (m i : Nat), i < m → i < A.length → AppC A (.slice (some ⟨b, off, none⟩) A.length cap) B i := by
  intro m
  induction m with
  | zero => intro i h; omega
  | succ m ihm =>
    intro i him hi xs sv w hown hB hx henv
    by_cases hl : 65536 < xs.length
    · exact app_long _ B i _ xs sv w hown hx hl
    · have hu := (henv w (Below.refl _ _)).2
      obtain ⟨x1, x2, x3⟩ := Ts.cell hu hi
      have hm := (hA.2 i hi).1
      have hn := hA.1
      rcases M.may_kind hm with ⟨k1, k2, k3, k4⟩ | ⟨k1, k2, k3, k4⟩ | ⟨k1, k2, k3, k4, k5⟩
      · rw [k1] at x1
        obtain ⟨a, ha⟩ : ∃ a : Nat, (M.at_ A i).2.1 = a := ⟨(M.at_ A i).2.1.toNat, by omega⟩
        have hT := M.txt_atom hm k1
        rw [ha] at x2 hT k3
        rw [Int.toNat_natCast] at hT
        exact app_atom A a i _ b off _ cap B xs sv w hi hown hB (by omega) henv x1 x2 x3 (by omega) _ hT
      · obtain ⟨a, ha⟩ : ∃ a : Nat, (M.at_ A i).2.1 = a := ⟨(M.at_ A i).2.1.toNat, by omega⟩
        have hT := M.txt_one hm (by omega) (by omega)
        rw [ha] at x2 hT k3
        rw [Int.toNat_natCast] at hT
        have ih := ihm a (by omega) (by omega)
        rcases k1 with k1 | k1 | k1 <;> rw [k1] at x1 hT
        · exact app_one A 2 a i _ 76 (.inl ⟨rfl, rfl⟩) b off _ cap B xs sv w hi hn (by omega) hown hB (by omega) henv x1 x2 x3 ih _ hT
        · exact app_one A 3 a i _ 82 (.inr (.inl ⟨rfl, rfl⟩)) b off _ cap B xs sv w hi hn (by omega) hown hB (by omega) henv x1 x2 x3 ih _ hT
        · exact app_one A 4 a i _ 75 (.inr (.inr ⟨rfl, rfl⟩)) b off _ cap B xs sv w hi hn (by omega) hown hB (by omega) henv x1 x2 x3 ih _ hT
      · obtain ⟨a, ha⟩ : ∃ a : Nat, (M.at_ A i).2.1 = a := ⟨(M.at_ A i).2.1.toNat, by omega⟩
        obtain ⟨d, hd⟩ : ∃ d : Nat, (M.at_ A i).2.2 = d := ⟨(M.at_ A i).2.2.toNat, by omega⟩
        have hT := M.txt_two hm k1
        rw [ha] at x2 hT k3
        rw [hd] at x3 hT k5
        rw [Int.toNat_natCast, Int.toNat_natCast] at hT
        rw [k1] at x1
        exact app_two A a d i b off _ cap B xs sv w hi hn (by omega) (by omega) hown hB (by omega) henv x1 x2 x3 (ihm a (by omega) (by omega)) (ihm d (by omega) (by omega)) _ hT
end Go.Proofs.YtkggcfkjmmijbaaDoor
