/-
  What the library's slices.SortFunc makes of a row of subsets of one's own, by a comparing function that is in order: the same row holds them in order. Conditions: the comparing function lays memory alone, and tells order.
-/
import Derived.Test.YtmicgojojkkkhaaGreatZA1
import Derived.Test.YtmicgojojkkkhaaGreatZShelf
import Derived.Test.YtmicgojojkkkhaaGreatZX0
import Derived.Shelf.SlSortCmp.NoneTotal
namespace Go.Proofs.YtmicgojojkkkhaaGreat
open Go.Shelf Go.RowKit Go.Lib Go.Sort
section
variable {α : Type} [Inhabited α]
theorem flatK_cells (E : Elt Tryz.prog α) (X : List α) : (flatK E.enc E.size X.toArray).toList = E.cells X := by
  have hp := E.pos
  have hsz : (flatK E.enc E.size X.toArray).toList.length = X.length * E.size := by simp
  apply List.ext_getElem?
  intro t
  by_cases ht : t < X.length * E.size
  · have h1 : t / E.size < X.length := (Nat.div_lt_iff_lt_mul hp).2 ht
    have h2 : t % E.size < E.size := Nat.mod_lt _ hp
    have h3 := E.cells_get X (t / E.size) (t % E.size) X[t / E.size] (List.getElem?_eq_getElem h1) h2
    rw [Nat.div_add_mod' t E.size] at h3
    have h4 := get_flatK E.enc E.size X.toArray t (by simpa using ht)
    have hs : t < (flatK E.enc E.size X.toArray).size := by simpa using ht
    rw [h3, Array.getElem?_toList, Array.getElem?_eq_getElem hs, ← getElem!_pos _ t hs, h4]
    have h5 : X.toArray[t / E.size]! = X[t / E.size] := by
      rw [getElem!_pos X.toArray _ (by simpa using h1)]
      exact List.getElem_toArray ..
    have h6 : t % E.size < (E.enc X[t / E.size]).length := by rw [E.len]; exact h2
    rw [h5, List.getElem?_eq_getElem h6, getElem!_pos (E.enc X[t / E.size]) (t % E.size) h6]
  · rw [List.getElem?_eq_none (by rw [hsz]; omega), List.getElem?_eq_none (by rw [E.cells_length]; omega)]
theorem heap_sortedK {w : World} {g n : Nat} {os : Array Obj} {cur : Array Value} {e : TypeId} {fr : Nat × Nat} (F : Array Value) (hb : w.heap[g]? = some (.cells cur e fr)) :
    (grow (putRow id (Sort.ahead w n) g 0 F) os).heap[g]? = some (.cells (putCells id 0 F cur) e fr) := by
  have hg : g < w.heap.size := (Array.getElem?_eq_some_iff.1 hb).1
  rw [heap_grow_old _ _ (by simpa using hg)]
  simp [putRow, mapBlock, Sort.ahead, Array.getElem?_modify, hb, onCells]
theorem grownBy_sortedK {w : World} {g n : Nat} {os : Array Obj} (F : Array Value) : w.grownBy (grow (putRow id (Sort.ahead w n) g 0 F) os) (some g) := by
  refine ⟨rfl, rfl, rfl, by simp, fun k hk hne => ?_⟩
  rw [heap_grow_old _ _ (by simpa using hk)]
  have : g ≠ k := fun e => hne (by rw [e])
  simp [putRow, mapBlock, Sort.ahead, Array.getElem?_modify, this]
theorem take_putCellsK (cur F : Array Value) (h : F.size ≤ cur.size) : (putCells id 0 F cur).toList.take F.size = F.toList := by
  apply List.ext_getElem?
  intro j
  by_cases hj : j < F.size
  · rw [List.getElem?_take_of_lt hj, Array.getElem?_toList]
    simp [putCells, hj, show j < cur.size by omega]
  · rw [List.getElem?_take_eq_none (by omega), List.getElem?_eq_none (by simp; omega)]
/-- a row of one's own is held, and behind the sort the same slice owns what was sorted -/
theorem own_sortedK {E : Elt Tryz.prog α} {w : World} {base g n cap : Nat} {X : List α} (h : w.ownsRow base E.et E.size (.slice (some ⟨g, 0, none⟩) n cap) n (E.cells X)) (hn : X.length = n) :
    g < w.heap.size ∧ base ≤ g ∧ HoldsK E.enc E.size w g 0 X.toArray ∧ ∀ (Y : List α) (m : Nat) (os : Array Obj), Y.length = X.length →
      (sortWorldK E.enc E.size w g 0 m Y.toArray os).ownsRow base E.et E.size (.slice (some ⟨g, 0, none⟩) n cap) n (E.cells Y) ∧ w.grownBy (sortWorldK E.enc E.size w g 0 m Y.toArray os) (some g) := by
  subst hn
  rcases h.2 with ⟨h0, _⟩ | ⟨g', cap', cur, hv, hg, hb, h1, h2, h3, h4⟩
  · cases h0
  cases hv
  have hlt : g < w.heap.size := (Array.getElem?_eq_some_iff.1 hb).1
  have hF := flatK_cells E X
  have hm : X.length * E.size ≤ cap * E.size := Nat.mul_le_mul_right _ h1
  refine ⟨hlt, hg, ?_, fun Y m os hY => ⟨⟨?_, .inr ⟨g, cap, _, rfl, hg, heap_sortedK _ hb, h1, h2, by simp [putCells, h3], ?_⟩⟩, grownBy_sortedK _⟩⟩
  · intro j hj
    have hj' : j < X.length * E.size := by simpa using hj
    refine ⟨?_, by simp [World.frozen?, hb]⟩
    have h5 : (cur.toList.take (X.length * E.size))[j]? = (flatK E.enc E.size X.toArray).toList[j]? := by rw [h4, hF]
    rw [List.getElem?_take_of_lt hj'] at h5
    simp only [World.cell?, hb, Nat.zero_add]
    simp only [Option.isSome_none, Bool.false_eq_true, if_false]
    rw [← Array.getElem?_toList, h5, Array.getElem?_toList, Array.getElem?_eq_getElem hj, ← getElem!_pos _ j hj]
    rfl
  · rw [E.cells_length, hY]
  · have hs : (flatK E.enc E.size Y.toArray).size = X.length * E.size := by simp [hY]
    have := take_putCellsK cur (flatK E.enc E.size Y.toArray) (by rw [hs, h3]; exact hm)
    rw [hs, flatK_cells E Y] at this
    exact this
end
theorem lt_swo {cf : Int × Int → Int × Int → Int} (hcf : ∀ x y, ltOf cf x y = M.ltS x y) : SWO (ltOf cf) where
  irrefl x := by rw [hcf, M.ltS_no]; omega
  trans x y z h1 h2 := by rw [hcf, M.ltS_iff] at *; omega
  ntrans x y z h1 h2 := by rw [hcf, M.ltS_no] at *; omega
theorem merge_srt {cf : Int × Int → Int × Int → Int} (hcf : ∀ x y, ltOf cf x y = M.ltS x y) (X : List (Int × Int)) : (X.mergeSort fun x y => !ltOf cf y x) = M.srt X := by
  have hle : (fun x y => !ltOf cf y x) = fun x y => !M.ltS y x := by funext x y; rw [hcf]
  rw [hle]
  refine M.ord_eq ?_ (M.srt_ord X) ((List.mergeSort_perm X _).trans (M.srt_perm X).symm)
  have := List.pairwise_mergeSort (le := fun x y => !M.ltS y x) (fun a b c h1 h2 => by
      rw [Bool.not_eq_true', M.ltS_no] at *; omega) (fun a b => by
      cases h1 : M.ltS b a with
      | false => rfl
      | true =>
        have h2 : M.ltS a b = false := by rw [M.ltS_no]; rw [M.ltS_iff] at h1; omega
        rw [h2]; rfl) X
  exact this.imp fun h => by rwa [Bool.not_eq_true'] at h
set_option maxRecDepth 100000 in
set_option maxHeartbeats 1000000 in
theorem sort_subs (g : Nat) (cb : Array Value) (cf : Int × Int → Int × Int → Int) (hcf : ∀ x y, ltOf cf x y = M.ltS x y) (eg : ∀ args w, (callFunc g args).run Tryz.prog w = .ok (.enter g args) w)
    (hc : ∀ (x y : Int × Int) (W : World), Calls Tryz.prog g (#[.agg #[.int .u64 x.1, .int .u64 x.2], .agg #[.int .u64 y.1, .int .u64 y.2]] ++ cb) W fun e w' => e = .returned (.int .i64 (cf x y)) ∧ ∃ q os, w' = grow (W.drewN q) os)
    {X : List (Int × Int)} {v : Value} {w : World} {base : Nat} (h : w.ownsRow base 25 2 v X.length (elSub.cells X)) (hX : X.length < 4611686018427387904) :
    Calls Tryz.prog 43 #[v, .func (.func g) #[] cb] w fun e w' => e = .returned (.tuple #[]) ∧ w'.ownsRow base 25 2 v X.length (elSub.cells (M.srt X)) ∧ w.grownBy w' v.ownBlock := by
  have hy : ∀ w, (isAgg 25).run Tryz.prog w = .ok true w := Tryz.isAgg25
  have hz : ∀ w, (Go.sizeOf 25).run Tryz.prog w = .ok 2 w := Tryz.sizeOf25
  have h0 := h
  rcases h0.2 with ⟨rfl, hn⟩ | ⟨g1, cap, cur, rfl, -⟩
  · have e0 : X = [] := List.eq_nil_of_length_eq_zero hn
    subst e0
    refine (AnyF.slices_SortFunc_none Tryz.sortSubs none 0 (.func (.func g) #[] cb) w).mono ?_
    rintro e w' ⟨rfl, rfl⟩
    exact ⟨rfl, h, ⟨rfl, rfl, rfl, Nat.le_refl _, fun _ _ _ => rfl⟩⟩
  · obtain ⟨h1, h2, h3, h4⟩ := own_sortedK (E := elSub) h rfl
    have hcon := AnyQ.slices_SortFunc_total Tryz.sortSubs 2 hy hz elSub.enc (fun _ => rfl) elSub.one cf (lt_swo hcf) g cb g1 0 cap X.toArray w eg (fun m os dk _ x y => hc x y _) h3 h1 (by simpa using hX) (fun x y a b => M.ltS_anti (by rw [← hcf]; exact a) (by rw [← hcf]; exact b))
    rw [merge_srt hcf] at hcon
    rw [List.size_toArray] at hcon
    refine hcon.mono ?_
    rintro e w' ⟨rfl, n, os, rfl⟩
    obtain ⟨a, b⟩ := h4 (M.srt X) n os (M.srt_length X)
    exact ⟨rfl, a, b⟩
end Go.Proofs.YtmicgojojkkkhaaGreat
