/-
  A map whose keys are subsets and whose values are whole numbers, in memory, as a list; looking up, storing. Conditions: each theorem's own premises.
-/
import Derived.Test.YthmiekinjfaflaaZTR
import Derived.WideKeyRuns
import Derived.DeepKeys3
import Derived.Maps.Own
import Derived.WideKeyEntry
namespace Go.Proofs.Ythmiekinjfaflaa
open Go.RowKit
def sbV (s : Int × Int) : Value := .agg #[.int .u64 s.1, .int .u64 s.2]
def M.fitSu (s : Int × Int) : Prop := 0 ≤ s.1 ∧ s.1 ≤ 18446744073709551615 ∧ 0 ≤ s.2 ∧ s.2 ≤ 18446744073709551615
theorem wfU {x : Int} (h0 : 0 ≤ x) (h1 : x ≤ 18446744073709551615) : (Lit.int .u64 x).wf = true := by
  have e0 : IntKind.u64.min = 0 := by decide
  have e1 : IntKind.u64.max = 18446744073709551615 := by decide
  simp only [Lit.wf, e0, e1, Bool.and_eq_true, decide_eq_true_eq]
  exact ⟨h0, h1⟩
set_option maxRecDepth 100000 in
theorem keyLitU {x : Int} (h0 : 0 ≤ x) (h1 : x ≤ 18446744073709551615) : Try.prog.keyLits 1 22 [.int .u64 x] = some [.int .u64 x] := by
  unfold Program.keyLits
  rw [Try.underlying22]
  simp only [wfU h0 h1, and_self, if_true]
set_option maxRecDepth 100000 in
theorem keyLitsSub (t : Int × Int) (h : M.fitSu t) : Try.prog.keyLits 2 35 [.int .u64 t.1, .int .u64 t.2] = some [.int .u64 t.1, .int .u64 t.2] := by
  unfold Program.keyLits
  rw [Try.underlying35]
  simp [Try.cellsSub, Try.cellsU64, keyLitU h.1 h.2.1, keyLitU h.2.2.1 h.2.2.2]
set_option maxRecDepth 100000 in
theorem run_checkSub (em : Bool) (t : Int × Int) (h : M.fitSu t) (w : World) : (Instr.checkKey em 10000 35 (sbV t)).run Try.prog w = .ok () w := by
  have hk : Try.prog.keyTypeAt 2 35 = true := by kernel_rfl
  exact run_checkKey_deep (P := Try.prog) em 9998 2 35 hk w 2 (sbV t) _ (by unfold Value.formed sbV; rw [Try.underlying35]; simp [Try.cellsSub]) (keyLitsSub t h)
/-- a map's entries -/
def EntS (K : List ((Int × Int) × Int)) (es : List MapEntry) : Prop := es.map (fun e => (e.key, e.val)) = K.map (fun p => (sbV p.1, .int .i64 p.2))
def MpS (W : World) (b : Nat) (K : List ((Int × Int) × Int)) : Prop := ∃ es clock, W.heap[b]? = some (.map es clock) ∧ EntS K es.toList ∧ ∀ e ∈ es.toList, e.born < clock
theorem MpS.lt {W : World} {b : Nat} {K : List ((Int × Int) × Int)} (h : MpS W b K) : b < W.heap.size := by
  obtain ⟨es, clock, h1, -⟩ := h
  exact (Array.getElem?_eq_some_iff.1 h1).1
theorem MpS.below {W W' : World} {b : Nat} {K : List ((Int × Int) × Int)} (h : MpS W b K) (hb : Below W.heap.size W W') : MpS W' b K := by
  have hl := h.lt
  obtain ⟨es, clock, h1, h2⟩ := h
  exact ⟨es, clock, (hb.block b hl).trans h1, h2⟩
theorem MpS.alloc {W : World} {b : Nat} {K : List ((Int × Int) × Int)} (h : MpS W b K) (o : Obj) : MpS (W.alloc o) b K := h.below ((Below.refl _ _).alloc (Nat.le_refl _) o)
theorem MpS.new (W : World) : MpS (W.alloc (.map #[] 0)) W.heap.size [] := ⟨#[], 0, heap_alloc_new W _, rfl, by simp⟩
/-- where a key is, and its value -/
def sfind (t : (Int × Int)) : List ((Int × Int) × Int) → Option (Nat × Int)
  | [] => none
  | p :: K => if t = p.1 then some (0, p.2) else (sfind t K).map (fun x => (x.1 + 1, x.2))
set_option maxRecDepth 100000 in
theorem eqS' (s t : (Int × Int)) (w : World) : (Op.equal 35 (sbV s) (sbV t)).run Try.prog w = .ok (decide (s = t)) w := eqSub s.1 s.2 t.1 t.2 w
set_option maxRecDepth 100000 in
theorem run_askingS (t : (Int × Int)) (w : World) : ∀ (K : List ((Int × Int) × Int)) (es : List MapEntry) (i : Nat), EntS K es → (Instr.findAsking 35 (sbV t) es i).run Try.prog w = .ok ((sfind t K).map (fun x => (i + x.1, .int .i64 x.2))) w
  | [], [], i, _ => rfl
  | [], e :: es, i, h => by simp [EntS] at h
  | p :: K, [], i, h => by simp [EntS] at h
  | p :: K, e :: es, i, h => by
    simp only [EntS, List.map_cons, List.cons.injEq, Prod.mk.injEq] at h
    obtain ⟨⟨h1, h2⟩, h3⟩ := h
    unfold Instr.findAsking sfind
    rw [h1, h2]
    simp only [Sem.run_bind, eqS' t p.1 w, Result.andThen_ok]
    by_cases hp : t = p.1
    · simp [hp]
    · have := run_askingS t w K es (i + 1) h3
      simp only [hp, decide_false, if_false, Bool.false_eq_true, this]
      cases sfind t K with
      | none => rfl
      | some x =>
        simp only [Option.map_some]
        rw [show i + 1 + x.1 = i + (x.1 + 1) by omega]
set_option maxRecDepth 100000 in
theorem run_findSub (t : (Int × Int)) (w : World) (K : List ((Int × Int) × Int)) (es : List MapEntry) (h : EntS K es) : (Instr.findKey 35 (sbV t) es).run Try.prog w = .ok ((sfind t K).map (fun x => (x.1, .int .i64 x.2))) w := by
  rw [run_findKey_eq w (by rw [Try.underlying35])]
  have := run_askingS t w K es 0 h
  simpa using this
set_option maxRecDepth 100000 in
theorem run_lookSub (t : (Int × Int)) (ht : M.fitSu t) {W : World} {b : Nat} {K : List ((Int × Int) × Int)} (h : MpS W b K) :
    (Instr.lookup 33 (.map (some b)) (sbV t) true).run Try.prog W = .ok (.tuple #[.int .i64 (match sfind t K with | some x => x.2 | none => 0), .bool (sfind t K).isSome]) W := by
  obtain ⟨es, clock, h1, h2, -⟩ := h
  have hz : (zeroValue 3).run Try.prog W = .ok (.int .i64 0) W := by kernel_rfl
  unfold Instr.lookup
  have hf := run_findSub t W K es.toList h2
  cases hk : sfind t K with
  | none =>
    rw [hk] at hf
    simp [run_underlying Try.underlying33, MapKept.run_getObj_map h1, run_checkSub _ t ht, hf, hz]
  | some x =>
    rw [hk] at hf
    simp [run_underlying Try.underlying33, MapKept.run_getObj_map h1, run_checkSub _ t ht, hf]
set_option maxRecDepth 100000 in
theorem run_lookSub1 (t : (Int × Int)) (ht : M.fitSu t) {W : World} {b : Nat} {K : List ((Int × Int) × Int)} (h : MpS W b K) :
    (Instr.lookup 33 (.map (some b)) (sbV t) false).run Try.prog W = .ok (.int .i64 (match sfind t K with | some x => x.2 | none => 0)) W := by
  obtain ⟨es, clock, h1, h2, -⟩ := h
  have hz : (zeroValue 3).run Try.prog W = .ok (.int .i64 0) W := by kernel_rfl
  unfold Instr.lookup
  have hf := run_findSub t W K es.toList h2
  cases hk : sfind t K with
  | none =>
    rw [hk] at hf
    simp [run_underlying Try.underlying33, MapKept.run_getObj_map h1, run_checkSub _ t ht, hf, hz]
  | some x =>
    rw [hk] at hf
    simp [run_underlying Try.underlying33, MapKept.run_getObj_map h1, run_checkSub _ t ht, hf]
set_option maxRecDepth 100000 in
theorem run_storeSub (t : (Int × Int)) (ht : M.fitSu t) (x : Int) {W : World} {b : Nat} {K : List ((Int × Int) × Int)} (h : MpS W b K) (hn : sfind t K = none) :
    ∃ W', (Instr.mapUpdate 33 (.map (some b)) (sbV t) (.int .i64 x)).run Try.prog W = .ok () W' ∧ MpS W' b (K ++ [(t, x)]) ∧ W.grownBy W' (some b) := by
  obtain ⟨es, clock, h1, h2, h3⟩ := h
  have hl := (Array.getElem?_eq_some_iff.1 h1).1
  have hf := run_findSub t W K es.toList h2
  rw [hn] at hf
  refine ⟨ChangeMaps.setBlock W b (.map (es.push { key := sbV t, val := .int .i64 x, born := clock }) (clock + 1)), ?_, ⟨es.push { key := sbV t, val := .int .i64 x, born := clock }, clock + 1, ?_, ?_, ?_⟩, ?_⟩
  · unfold Instr.mapUpdate
    simp [run_underlying Try.underlying33, MapKept.run_getObj_map h1, run_checkSub _ t ht, hf, MapKept.run_setObj_map _ h1, Result.andThen, ChangeMaps.setBlock]
  · simp [ChangeMaps.setBlock, hl]
  · unfold EntS at h2 ⊢
    rw [Array.toList_push, List.map_append, List.map_append, h2]
    rfl
  · intro e he
    rw [Array.toList_push, List.mem_append] at he
    rcases he with he | he
    · have := h3 e he; omega
    · simp at he; subst he; exact Nat.lt_succ_self _
  · refine ⟨rfl, rfl, rfl, by simp [ChangeMaps.setBlock], fun k _ hk => ?_⟩
    have : b ≠ k := fun e => hk (by rw [e])
    simp [ChangeMaps.setBlock, Array.getElem?_setIfInBounds_ne this]
set_option maxRecDepth 100000 in
/-- 'm[t] op= ..' of a new key: its entry is laid first, and stored to later -/
theorem run_entrySub (t : (Int × Int)) (ht : M.fitSu t) {W : World} {b : Nat} {K : List ((Int × Int) × Int)} (h : MpS W b K) (hn : sfind t K = none) :
    ∃ W1 st, (Instr.mapEntry 33 (.map (some b)) (sbV t)).run Try.prog W = .ok (.tuple #[.int .i64 0, .int .i64 st]) W1 ∧ MpS W1 b (K ++ [(t, 0)]) ∧ W.grownBy W1 (some b) ∧
      ∀ (x : Int) (W2 : World), W2.heap[b]? = W1.heap[b]? → ∃ W3, (Instr.entryStore 33 (.map (some b)) (.int .i64 st) (.int .i64 x)).run Try.prog W2 = .ok () W3 ∧ MpS W3 b (K ++ [(t, x)]) ∧ W2.grownBy W3 (some b) := by
  have hz : ∀ W : World, (zeroValue 3).run Try.prog W = .ok (.int .i64 0) W := fun W => by kernel_rfl
  obtain ⟨es, clock, h1, h2, h3⟩ := h
  have hl := (Array.getElem?_eq_some_iff.1 h1).1
  have hf := run_findSub t W K es.toList h2
  rw [hn] at hf
  have hlast : ∀ x : Int, MpS (ChangeMaps.setBlock W b (.map (es.push { key := sbV t, val := .int .i64 x, born := clock }) (clock + 1))) b (K ++ [(t, x)]) := fun x => by
    refine ⟨es.push { key := sbV t, val := .int .i64 x, born := clock }, clock + 1, by simp [ChangeMaps.setBlock, hl], ?_, ?_⟩
    · unfold EntS at h2 ⊢
      rw [Array.toList_push, List.map_append, List.map_append, h2]
      rfl
    · intro e he
      rw [Array.toList_push, List.mem_append] at he
      rcases he with he | he
      · have := h3 e he; omega
      · simp at he; subst he; exact Nat.lt_succ_self _
  have hgrown : ∀ (V : World) (o : Obj), V.grownBy (ChangeMaps.setBlock V b o) (some b) := fun V o => by
    refine ⟨rfl, rfl, rfl, by simp [ChangeMaps.setBlock], fun k _ hk => ?_⟩
    have : b ≠ k := fun e => hk (by rw [e])
    simp [ChangeMaps.setBlock, Array.getElem?_setIfInBounds_ne this]
  refine ⟨ChangeMaps.setBlock W b (.map (es.push { key := sbV t, val := .int .i64 0, born := clock }) (clock + 1)), clock, ?_, hlast 0, hgrown _ _, fun x W2 hW2 => ?_⟩
  · unfold Instr.mapEntry
    simp [run_underlying Try.underlying33, MapKept.run_getObj_map h1, run_checkSub _ t ht, hf, hz, MapKept.run_setObj_map _ h1, Result.andThen, ChangeMaps.setBlock, goInt]
  · have hW : W2.heap[b]? = some (.map (es.push { key := sbV t, val := .int .i64 0, born := clock }) (clock + 1)) := by
      rw [hW2]; simp [ChangeMaps.setBlock, hl]
    have hl2 := (Array.getElem?_eq_some_iff.1 hW).1
    have hno : es.toList.findIdx? (fun e => ((e.born : Nat) : Int) == ((clock : Nat) : Int)) = none := by
      rw [List.findIdx?_eq_none_iff]
      intro e he
      have := h3 e he
      simp only [beq_eq_false_iff_ne, ne_eq, Int.natCast_inj]
      omega
    have hidx : (es.push { key := sbV t, val := .int .i64 0, born := clock }).findIdx? (fun e => ((e.born : Nat) : Int) == ((clock : Nat) : Int)) = some es.size := by
      rw [Go.WideElems.findIdx_arr, Array.toList_push, List.findIdx?_append, hno]
      simp
    have hmod : (es.push { key := sbV t, val := .int .i64 0, born := clock }).modify es.size (fun e => { e with val := .int .i64 x }) = es.push { key := sbV t, val := .int .i64 x, born := clock } := by
      apply Array.ext'
      rw [Array.toList_modify, Array.toList_push, Array.toList_push, ← Array.length_toList, Go.WideElems.modify_last]
    refine ⟨ChangeMaps.setBlock W2 b (.map (es.push { key := sbV t, val := .int .i64 x, born := clock }) (clock + 1)), ?_, ?_, hgrown _ _⟩
    · unfold Instr.entryStore
      simp [MapKept.run_getObj_map hW, asInt, asIntOf, hidx, hmod, MapKept.run_setObj_map _ hW, Result.andThen, ChangeMaps.setBlock]
    · obtain ⟨es', c', e1, e2, e3⟩ := hlast x
      refine ⟨es', c', ?_, e2, e3⟩
      rw [← e1]
      simp [ChangeMaps.setBlock, hl, hl2]
set_option maxRecDepth 100000 in
/-- 'm[t] = x' of a new key, at the operation -/
theorem wpList_storeSub (w : World) {ops : Array Oper} {rest : List Oper} {o : Oper} {a : Act} {Q : Exit → Act → World → Prop} (hg : Region.wanted o (yielded ops a.tmps) = true) (m k v : Operand)
    (hop : o.op = Op.mapUpdate 33 m k v) (b : Nat) (K : List ((Int × Int) × Int)) (t : (Int × Int)) (x : Int) (hm : a.eval m = .map (some b)) (hk : a.eval k = sbV t) (hv : a.eval v = .int .i64 x) (ht : M.fitSu t) (h : MpS w b K) (hn : sfind t K = none)
    (hK : ∀ w', MpS w' b (K ++ [(t, x)]) → w.grownBy w' (some b) → wpList Try.prog ops Q rest (a.put o.dst undef) w') : wpList Try.prog ops Q (o :: rest) a w := by
  refine wpList_wantedq hg fun K' hK' => ?_
  obtain ⟨w', hrun, r1, r2⟩ := run_storeSub t ht x h hn
  unfold Oper.wp
  simp [execOp, hop, hm, hk, hv, hrun, Result.andThen]
  exact hK' _ _ (hK w' r1 r2)
set_option maxRecDepth 100000 in
theorem run_makeMapSub (n : Int) (w : World) : (Instr.makeMap 33 (some (.int .i64 n))).run Try.prog w = .ok (.map (some w.heap.size)) (w.alloc (.map #[] 0)) := by
  simp [Instr.makeMap, run_underlying Try.underlying33, asInt]
  rfl
theorem sfind_cons (t : (Int × Int)) (p : (Int × Int) × Int) (K : List ((Int × Int) × Int)) : sfind t (p :: K) = if t = p.1 then some (0, p.2) else (sfind t K).map (fun x => (x.1 + 1, x.2)) := rfl
theorem sfind_append (t : (Int × Int)) : ∀ (K L : List ((Int × Int) × Int)), sfind t (K ++ L) = match sfind t K with | some x => some x | none => (sfind t L).map (fun x => (x.1 + K.length, x.2))
  | [], L => by
    show sfind t L = (sfind t L).map (fun x => (x.1 + 0, x.2))
    cases sfind t L <;> rfl
  | p :: K, L => by
    rw [List.cons_append, sfind_cons, sfind_cons]
    by_cases h : t = p.1
    · rw [if_pos h, if_pos h]
    · rw [if_neg h, if_neg h, sfind_append t K L]
      cases sfind t K with
      | some x => rfl
      | none =>
        cases sfind t L with
        | none => rfl
        | some x => simp [Nat.add_assoc]
end Go.Proofs.Ythmiekinjfaflaa
