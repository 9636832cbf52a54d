/-
  The two tables that the program's texts of terms stand on read as their text lays them, by the rows' own condition. Condition: that condition.
-/
import Derived.Test.YtkggcfkjmmijbaaDoorU11
import Derived.Test.YtkggcfkjmmijbaaDoorU14
import Derived.Test.YtkggcfkjmmijbaaDoorU16
import Derived.Lib.LaidTab
namespace Go.Proofs.YtkggcfkjmmijbaaDoor
open Go.RowKit
/-- an array of strings that reads as a table holds its strings -/
theorem cells_of_strs {H : Type} {enc : TypeId × Value → H} {P : Program} {w : World} {base : Nat} {sp : Nat → Bool} {held : Bool} {fuel : Nat} {t e : TypeId} {n : Nat} {cs : List Value} {zs : List (List UInt8)} {p : List MemPlace}
    (ht : P.underlying t = some (.array n e)) (he : P.underlying e = some .string) (hce : P.cellsOf e = 1) (hct : P.cellsOf t = n)
    (h : DataW.trod enc P w base sp held fuel t cs = some (.agg (zs.map fun z => .lit (.string z)), p)) : cs = zs.map fun z => Value.string ⟨z.toArray⟩ := by
  cases fuel with
  | zero => simp [DataW.trod] at h
  | succ fuel =>
    simp only [DataW.trod, ht, hce, hct, Nat.mul_one] at h
    split at h
    · rename_i hl
      obtain ⟨xs, hm, hx⟩ := Option.map_eq_some_iff.1 h
      have hxs : xs.map (·.1) = zs.map fun z => (DataW.lit (.string z) : DataW H) := by
        have := congrArg Prod.fst hx
        simpa using this
      have hxl : xs.length = n := by simpa using Lib.mapM_length hm
      have hzl : zs.length = n := by
        have := congrArg List.length hxs
        simp at this
        omega
      apply List.ext_getElem?
      intro i
      by_cases hi : i < n
      · obtain ⟨b, hb, hf⟩ := Lib.mapM_at hm i i (by simp [hi])
        obtain ⟨s, hc, rfl, _⟩ := DataW.trod_string he hf
        have h1 : cs[i]? = some (.string s) := by
          have := congrArg (·[0]?) hc
          simpa [List.getElem?_take, List.getElem?_drop] using this
        have h2 : (xs.map (·.1))[i]? = some (DataW.lit (.string s.data.toList) : DataW H) := by simp [hb]
        rw [hxs] at h2
        simp only [List.getElem?_map, Option.map_eq_some_iff, DataW.lit.injEq, Lit.string.injEq] at h2
        obtain ⟨z', hz', e⟩ := h2
        rw [h1, List.getElem?_map, hz', Option.map_some, e]
      · rw [List.getElem?_eq_none (by omega), List.getElem?_eq_none (by simp; omega)]
    · cases h
theorem gPow : Tryd.prog.globalNamed "internal/strconv.uint64pow10" = some 1 := by kernel_rfl
theorem gPowType : (Tryd.prog.globals[1]?).map (·.type) = some 77 := by kernel_rfl
theorem gBegType : (Tryd.prog.globals[0]?).map (·.type) = some 64 := by kernel_rfl
theorem tab_of_laid {W : World} (h : laidMetH Tryd.prog Rows.termDoesRow.laid W) : Tab W := by
  rw [MakeChecks.laidMetH_plain _ _ _ (by kernel_rfl)] at h
  obtain ⟨ps, ⟨g0, t0, cs0, f0, p0, q0, hg0, ht0, hv0, hd0, ⟨g1, t1, cs1, f1, p1, q1, hg1, ht1, hv1, hd1, ⟨g2, t2, cs2, f2, p2, q2, hg2, ht2, hv2, hd2, ⟨g3, t3, cs3, f3, p3, q3, hg3, ht3, hv3, hd3, _, _⟩, _⟩, _⟩, _⟩, _⟩ := h
  obtain rfl := Option.some.inj (gPow.symm.trans hg2)
  obtain rfl := Option.some.inj (gBeg.symm.trans hg3)
  obtain rfl := Option.some.inj (gPowType.symm.trans ht2)
  obtain rfl := Option.some.inj (gBegType.symm.trans ht3)
  refine ⟨?_, ?_⟩
  · unfold Lib.TabIs
    rw [hv2, ← Lib.cells_of_tab (k := .u64) (zs := Lib.pow10Tab) Tryd.underlying77 Tryd.underlying68 (by kernel_rfl) (by kernel_rfl) hd2]
  · rw [hv3]
    have := cells_of_strs (zs := [[], [97], [76, 40], [82, 40], [75, 40], [87, 40]]) Tryd.underlying64 Tryd.underlying9 (by kernel_rfl) (by kernel_rfl) hd3
    obtain ⟨l⟩ := cs3
    dsimp only at this
    rw [this]
    rfl
theorem termTells_tab {W : World} (h : laidMetH Tryd.prog Rows.termTellsRow.laid W) : Tab W := tab_of_laid h
theorem termDoes_tab {W : World} (h : laidMetH Tryd.prog Rows.termDoesRow.laid W) : Tab W := tab_of_laid h
theorem termOnce_tab {W : World} (h : laidMetH Tryd.prog Rows.termOnceRow.laid W) : Tab W := tab_of_laid h
theorem termWithin_tab {W : World} (h : laidMetH Tryd.prog Rows.termWithinRow.laid W) : Tab W := tab_of_laid h
theorem termStays_tab {W : World} (h : laidMetH Tryd.prog Rows.termStaysRow.laid W) : Tab W := tab_of_laid h
end Go.Proofs.YtkggcfkjmmijbaaDoor
