/-
  A map whose keys are terms and whose values are whole numbers, in memory, as a list; looking up, storing a new one. Conditions: each theorem's own premises.
-/
import Derived.Test.YthbacijbgjmigaaZT2
import Derived.WideKeyRuns
import Derived.DeepKeys3
namespace Go.Proofs.Ythbacijbgjmigaa
open Go.RowKit
theorem wfI {x : Int} (h : M.fitI x) : (Lit.int .i64 x).wf = true := by
  obtain ⟨h0, h1⟩ := h
  have e0 : IntKind.i64.min = -9223372036854775808 := by decide
  have e1 : IntKind.i64.max = 9223372036854775807 := by decide
  simp only [Lit.wf, e0, e1, Bool.and_eq_true, decide_eq_true_eq]
  exact ⟨h0, h1⟩
theorem keyLitI {x : Int} (h : M.fitI x) : Try.prog.keyLits 1 3 [.int .i64 x] = some [.int .i64 x] := by
  unfold Program.keyLits
  rw [Try.underlying3]
  simp only [wfI h, and_self, if_true]
theorem keyLitsT (t : M.Tm) (h : M.fitT t) : Try.prog.keyLits 2 45 [.int .i64 t.1, .int .i64 t.2.1, .int .i64 t.2.2] = some [.int .i64 t.1, .int .i64 t.2.1, .int .i64 t.2.2] := by
  unfold Program.keyLits
  rw [Try.underlying45]
  simp [Try.cellsTerm, Try.cellsInt, keyLitI h.1, keyLitI h.2.1, keyLitI h.2.2]
theorem run_checkT (em : Bool) (t : M.Tm) (h : M.fitT t) (w : World) : (Instr.checkKey em 10000 45 (tmV t)).run Try.prog w = .ok () w := by
  have hk : Try.prog.keyTypeAt 2 45 = true := by kernel_rfl
  exact run_checkKey_deep (P := Try.prog) em 9998 2 45 hk w 2 (tmV t) _ (by unfold Value.formed tmV; rw [Try.underlying45]; simp [Try.cellsTerm]) (keyLitsT t h)
/-- a map's entries -/
def Ent (K : List (M.Tm × Int)) (es : List MapEntry) : Prop := es.map (fun e => (e.key, e.val)) = K.map (fun p => (tmV p.1, .int .i64 p.2))
def Mp (W : World) (b : Nat) (K : List (M.Tm × Int)) : Prop := ∃ es clock, W.heap[b]? = some (.map es clock) ∧ Ent K es.toList
theorem Mp.lt {W : World} {b : Nat} {K : List (M.Tm × Int)} (h : Mp W b K) : b < W.heap.size := by
  obtain ⟨es, clock, h1, _⟩ := h
  exact (Array.getElem?_eq_some_iff.1 h1).1
theorem Mp.below {W W' : World} {b : Nat} {K : List (M.Tm × Int)} (h : Mp W b K) (hb : Below W.heap.size W W') : Mp W' b K := by
  have hl := h.lt
  obtain ⟨es, clock, h1, h2⟩ := h
  exact ⟨es, clock, (hb.block b hl).trans h1, h2⟩
theorem Mp.alloc {W : World} {b : Nat} {K : List (M.Tm × Int)} (h : Mp W b K) (o : Obj) : Mp (W.alloc o) b K := h.below ((Below.refl _ _).alloc (Nat.le_refl _) o)
theorem Mp.new (W : World) : Mp (W.alloc (.map #[] 0)) W.heap.size [] := ⟨#[], 0, heap_alloc_new W _, rfl⟩
/-- where a key is, and its value -/
def kfind (t : M.Tm) : List (M.Tm × Int) → Option (Nat × Int)
  | [] => none
  | p :: K => if t = p.1 then some (0, p.2) else (kfind t K).map (fun x => (x.1 + 1, x.2))
theorem eqT' (s t : M.Tm) (w : World) : (Op.equal 45 (tmV s) (tmV t)).run Try.prog w = .ok (decide (s = t)) w := eqT s.1 s.2.1 s.2.2 t.1 t.2.1 t.2.2 w
theorem run_asking (t : M.Tm) (w : World) : ∀ (K : List (M.Tm × Int)) (es : List MapEntry) (i : Nat), Ent K es → (Instr.findAsking 45 (tmV t) es i).run Try.prog w = .ok ((kfind t K).map (fun x => (i + x.1, .int .i64 x.2))) w
  | [], [], i, _ => rfl
  | [], e :: es, i, h => by simp [Ent] at h
  | p :: K, [], i, h => by simp [Ent] at h
  | p :: K, e :: es, i, h => by
    simp only [Ent, List.map_cons, List.cons.injEq, Prod.mk.injEq] at h
    obtain ⟨⟨h1, h2⟩, h3⟩ := h
    unfold Instr.findAsking kfind
    rw [h1, h2]
    simp only [Sem.run_bind, eqT' t p.1 w, Result.andThen_ok]
    by_cases hp : t = p.1
    · simp [hp]
    · have := run_asking t w K es (i + 1) h3
      simp only [hp, decide_false, if_false, Bool.false_eq_true, this]
      cases kfind t K with
      | none => rfl
      | some x =>
        simp only [Option.map_some]
        rw [show i + 1 + x.1 = i + (x.1 + 1) by omega]
theorem run_findT (t : M.Tm) (w : World) (K : List (M.Tm × Int)) (es : List MapEntry) (h : Ent K es) : (Instr.findKey 45 (tmV t) es).run Try.prog w = .ok ((kfind t K).map (fun x => (x.1, .int .i64 x.2))) w := by
  rw [run_findKey_eq w (by rw [Try.underlying45])]
  have := run_asking t w K es 0 h
  simpa using this
theorem run_lookT (t : M.Tm) (ht : M.fitT t) {W : World} {b : Nat} {K : List (M.Tm × Int)} (h : Mp W b K) :
    (Instr.lookup 78 (.map (some b)) (tmV t) true).run Try.prog W = .ok (.tuple #[.int .i64 (match kfind t K with | some x => x.2 | none => 0), .bool (kfind t K).isSome]) W := by
  obtain ⟨es, clock, h1, h2⟩ := h
  have hz : (zeroValue 3).run Try.prog W = .ok (.int .i64 0) W := by kernel_rfl
  unfold Instr.lookup
  have hf := run_findT t W K es.toList h2
  cases hk : kfind t K with
  | none =>
    rw [hk] at hf
    simp [run_underlying Try.underlying78, MapKept.run_getObj_map h1, run_checkT _ t ht, hf, hz]
  | some x =>
    rw [hk] at hf
    simp [run_underlying Try.underlying78, MapKept.run_getObj_map h1, run_checkT _ t ht, hf]
theorem run_storeT (t : M.Tm) (ht : M.fitT t) (x : Int) {W : World} {b : Nat} {K : List (M.Tm × Int)} (h : Mp W b K) (hn : kfind t K = none) :
    ∃ W', (Instr.mapUpdate 78 (.map (some b)) (tmV t) (.int .i64 x)).run Try.prog W = .ok () W' ∧ Mp W' b (K ++ [(t, x)]) ∧ W.grownBy W' (some b) := by
  obtain ⟨es, clock, h1, h2⟩ := h
  have hl := (Array.getElem?_eq_some_iff.1 h1).1
  have hf := run_findT t W K es.toList h2
  rw [hn] at hf
  refine ⟨ChangeMaps.setBlock W b (.map (es.push { key := tmV t, val := .int .i64 x, born := clock }) (clock + 1)), ?_, ⟨es.push { key := tmV t, val := .int .i64 x, born := clock }, clock + 1, ?_, ?_⟩, ?_⟩
  · unfold Instr.mapUpdate
    simp [run_underlying Try.underlying78, MapKept.run_getObj_map h1, run_checkT _ t ht, hf, MapKept.run_setObj_map _ h1, Result.andThen, ChangeMaps.setBlock]
  · simp [ChangeMaps.setBlock, hl]
  · unfold Ent at h2 ⊢
    rw [Array.toList_push, List.map_append, List.map_append, h2]
    rfl
  · refine ⟨rfl, rfl, rfl, by simp [ChangeMaps.setBlock], fun k _ hk => ?_⟩
    have : b ≠ k := fun e => hk (by rw [e])
    simp [ChangeMaps.setBlock, Array.getElem?_setIfInBounds_ne this]
/-- 'm[t] = x' of a new key, at the operation -/
theorem wpList_storeT (w : World) {ops : Array Oper} {rest : List Oper} {o : Oper} {a : Act} {Q : Exit → Act → World → Prop} (hg : Region.wanted o (yielded ops a.tmps) = true) (m k v : Operand)
    (hop : o.op = Op.mapUpdate 78 m k v) (b : Nat) (K : List (M.Tm × Int)) (t : M.Tm) (x : Int) (hm : a.eval m = .map (some b)) (hk : a.eval k = tmV t) (hv : a.eval v = .int .i64 x) (ht : M.fitT t) (h : Mp w b K) (hn : kfind t K = none)
    (hK : ∀ w', Mp w' b (K ++ [(t, x)]) → w.grownBy w' (some b) → wpList Try.prog ops Q rest (a.put o.dst undef) w') : wpList Try.prog ops Q (o :: rest) a w := by
  refine wpList_wantedq hg fun K' hK' => ?_
  obtain ⟨w', hrun, r1, r2⟩ := run_storeT t ht x h hn
  unfold Oper.wp
  simp [execOp, hop, hm, hk, hv, hrun, Result.andThen]
  exact hK' _ _ (hK w' r1 r2)
theorem run_makeMapT (n : Int) (w : World) : (Instr.makeMap 78 (some (.int .i64 n))).run Try.prog w = .ok (.map (some w.heap.size)) (w.alloc (.map #[] 0)) := by
  simp [Instr.makeMap, run_underlying Try.underlying78, asInt]
  rfl
/-- the first k terms, each with its place -/
def kpl (A : List M.Tm) (k : Nat) : List (M.Tm × Int) := (List.range k).map (fun j : Nat => (M.at_ A j, (j : Int)))
theorem kpl_succ (A : List M.Tm) (k : Nat) : kpl A (k + 1) = kpl A k ++ [(M.at_ A k, (k : Int))] := by unfold kpl; rw [List.range_succ, List.map_append]; rfl
theorem kfind_cons (t : M.Tm) (p : M.Tm × Int) (K : List (M.Tm × Int)) : kfind t (p :: K) = if t = p.1 then some (0, p.2) else (kfind t K).map (fun x => (x.1 + 1, x.2)) := rfl
theorem kfind_append (t : M.Tm) : ∀ (K L : List (M.Tm × Int)), kfind t (K ++ L) = match kfind t K with | some x => some x | none => (kfind t L).map (fun x => (x.1 + K.length, x.2))
  | [], L => by
    show kfind t L = (kfind t L).map (fun x => (x.1 + 0, x.2))
    cases kfind t L <;> rfl
  | p :: K, L => by
    rw [List.cons_append, kfind_cons, kfind_cons]
    by_cases h : t = p.1
    · rw [if_pos h, if_pos h]
    · rw [if_neg h, if_neg h, kfind_append t K L]
      cases kfind t K with
      | some x => rfl
      | none =>
        cases kfind t L with
        | none => rfl
        | some x => simp [Nat.add_assoc]
theorem kfind_kpl (A : List M.Tm) (t : M.Tm) : ∀ k, k ≤ A.length → kfind t (kpl A k) = (M.plc t (A.take k)).map (fun i : Nat => (i, (i : Int)))
  | 0, _ => by simp [kpl, kfind, M.plc]
  | k + 1, h => by
    have ih := kfind_kpl A t k (by omega)
    have e : A.take (k + 1) = A.take k ++ [M.at_ A k] := by
      rw [List.take_succ_eq_append_getElem (by omega)]
      congr 2
      simp [M.at_, show k < A.length by omega]
    rw [kpl_succ, kfind_append, ih, e]
    cases hp : M.plc t (A.take k) with
    | some i => rw [M.plc_append hp]; rfl
    | none =>
      have hl : (A.take k).length = k := by rw [List.length_take]; omega
      have hl2 : (kpl A k).length = k := by simp [kpl]
      have key : ∀ (l : List M.Tm), M.plc t l = none → M.plc t (l ++ [M.at_ A k]) = if t = M.at_ A k then some l.length else none := by
        intro l
        induction l with
        | nil => intro _; by_cases h : t = M.at_ A k <;> simp [M.plc, h, eq_comm]
        | cons y l ih =>
          intro h
          unfold M.plc at h
          by_cases hy : y = t
          · rw [if_pos hy] at h; cases h
          · rw [if_neg hy] at h
            rw [List.cons_append]
            unfold M.plc
            rw [if_neg hy, ih (by simpa using h)]
            split <;> simp
      rw [key _ hp, hl]
      by_cases h : t = M.at_ A k
      · simp [kfind, h, hl2]
      · simp [kfind, h]
end Go.Proofs.Ythbacijbgjmigaa
