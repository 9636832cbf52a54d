/-
  A map whose keys are places and whose values are values, in memory, as a list; looking up, storing a new one. Conditions: each theorem's own premises.
-/
import Derived.Test.YtomhccendbnamaaDoorZE1
import Derived.WideKeyRuns
import Derived.DeepKeys3
namespace Go.Proofs.YtomhccendbnamaaDoor
open Go.RowKit
set_option maxRecDepth 100000 in
theorem run_checkI (em : Bool) (x : Int) (h : M.fitI x) (w : World) : (Instr.checkKey em 10000 3 (.int .i64 x)).run Tryd.prog w = .ok () w := by
  have hk : Tryd.prog.keyTypeAt 1 3 = true := by kernel_rfl
  exact run_checkKey_deep (P := Tryd.prog) em 9999 1 3 hk w 1 (.int .i64 x) _ (by unfold Value.formed; rw [Tryd.underlying3]) (keyLitI h)
/-- a map's entries -/
def EntV (K : List (Int × M.Val)) (es : List MapEntry) : Prop := es.map (fun e => (e.key, e.val)) = K.map (fun p => (.int .i64 p.1, valV p.2))
def MpV (W : World) (b : Nat) (K : List (Int × M.Val)) : Prop := ∃ es clock, W.heap[b]? = some (.map es clock) ∧ EntV K es.toList
theorem MpV.lt {W : World} {b : Nat} {K : List (Int × M.Val)} (h : MpV W b K) : b < W.heap.size := by
  obtain ⟨es, clock, h1, _⟩ := h
  exact (Array.getElem?_eq_some_iff.1 h1).1
theorem MpV.below {W W' : World} {b : Nat} {K : List (Int × M.Val)} (h : MpV W b K) (hb : Below W.heap.size W W') : MpV W' b K := by
  have hl := h.lt
  obtain ⟨es, clock, h1, h2⟩ := h
  exact ⟨es, clock, (hb.block b hl).trans h1, h2⟩
theorem MpV.alloc {W : World} {b : Nat} {K : List (Int × M.Val)} (h : MpV W b K) (o : Obj) : MpV (W.alloc o) b K := h.below ((Below.refl _ _).alloc (Nat.le_refl _) o)
theorem MpV.new (W : World) : MpV (W.alloc (.map #[] 0)) W.heap.size [] := ⟨#[], 0, heap_alloc_new W _, rfl⟩
def vfind (t : Int) : List (Int × M.Val) → Option (Nat × M.Val)
  | [] => none
  | p :: K => if t = p.1 then some (0, p.2) else (vfind t K).map (fun x => (x.1 + 1, x.2))
theorem find_nowV (t : Int) : ∀ (K : List (Int × M.Val)) (es : List MapEntry) (i : Nat), EntV K es → Instr.findNow (.int .i64) (.int .i64 t) es i = some ((vfind t K).map (fun x => (i + x.1, valV x.2)))
  | [], [], i, _ => rfl
  | [], e :: es, i, h => by simp [EntV] at h
  | p :: K, [], i, h => by simp [EntV] at h
  | p :: K, e :: es, i, h => by
    simp only [EntV, List.map_cons, List.cons.injEq, Prod.mk.injEq] at h
    obtain ⟨⟨h1, h2⟩, h3⟩ := h
    unfold Instr.findNow vfind
    rw [h1, h2]
    by_cases hp : t = p.1
    · simp [Instr.sameNow, hp]
    · have := find_nowV t K es (i + 1) h3
      simp only [Instr.sameNow, if_true, beq_eq_false_iff_ne.2 hp, hp, if_false, this]
      cases vfind t K with
      | none => rfl
      | some x =>
        simp only [Option.map_some]
        rw [show i + 1 + x.1 = i + (x.1 + 1) by omega]
set_option maxRecDepth 100000 in
theorem run_findV (t : Int) (w : World) (K : List (Int × M.Val)) (es : List MapEntry) (h : EntV K es) : (Instr.findKey 3 (.int .i64 t) es).run Tryd.prog w = .ok ((vfind t K).map (fun x => (x.1, valV x.2))) w := by
  have := MapKept.run_findKey (P := Tryd.prog) (w := w) Tryd.underlying3 (find_nowV t K es 0 h)
  simpa using this
set_option maxRecDepth 100000 in
theorem run_lookV (t : Int) (ht : M.fitI t) {W : World} {b : Nat} {K : List (Int × M.Val)} (h : MpV W b K) :
    (Instr.lookup 71 (.map (some b)) (.int .i64 t) false).run Tryd.prog W = .ok (valV (match vfind t K with | some x => x.2 | none => M.zV)) W := by
  obtain ⟨es, clock, h1, h2⟩ := h
  have hz : (zeroValue 29).run Tryd.prog W = .ok (valV M.zV) W := by kernel_rfl
  unfold Instr.lookup
  have hf := run_findV t W K es.toList h2
  cases hk : vfind t K with
  | none =>
    rw [hk] at hf
    simp [run_underlying Tryd.underlying71, MapKept.run_getObj_map h1, run_checkI _ t ht, hf, hz]
  | some x =>
    rw [hk] at hf
    simp [run_underlying Tryd.underlying71, MapKept.run_getObj_map h1, run_checkI _ t ht, hf]
set_option maxRecDepth 100000 in
theorem run_storeV (t : Int) (ht : M.fitI t) (x : M.Val) {W : World} {b : Nat} {K : List (Int × M.Val)} (h : MpV W b K) (hn : vfind t K = none) :
    ∃ W', (Instr.mapUpdate 71 (.map (some b)) (.int .i64 t) (valV x)).run Tryd.prog W = .ok () W' ∧ MpV W' b (K ++ [(t, x)]) ∧ W.grownBy W' (some b) := by
  obtain ⟨es, clock, h1, h2⟩ := h
  have hl := (Array.getElem?_eq_some_iff.1 h1).1
  have hf := run_findV t W K es.toList h2
  rw [hn] at hf
  refine ⟨ChangeMaps.setBlock W b (.map (es.push { key := .int .i64 t, val := valV x, born := clock }) (clock + 1)), ?_, ⟨es.push { key := .int .i64 t, val := valV x, born := clock }, clock + 1, ?_, ?_⟩, ?_⟩
  · unfold Instr.mapUpdate
    simp [run_underlying Tryd.underlying71, MapKept.run_getObj_map h1, run_checkI _ t ht, hf, MapKept.run_setObj_map _ h1, Result.andThen, ChangeMaps.setBlock]
  · simp [ChangeMaps.setBlock, hl]
  · unfold EntV at h2 ⊢
    rw [Array.toList_push, List.map_append, List.map_append, h2]
    rfl
  · refine ⟨rfl, rfl, rfl, by simp [ChangeMaps.setBlock], fun k _ hk => ?_⟩
    have : b ≠ k := fun e => hk (by rw [e])
    simp [ChangeMaps.setBlock, Array.getElem?_setIfInBounds_ne this]
set_option maxRecDepth 100000 in
theorem run_makeMapV (n : Int) (w : World) : (Instr.makeMap 71 (some (.int .i64 n))).run Tryd.prog w = .ok (.map (some w.heap.size)) (w.alloc (.map #[] 0)) := by
  simp [Instr.makeMap, run_underlying Tryd.underlying71, asInt]
  rfl
end Go.Proofs.YtomhccendbnamaaDoor
