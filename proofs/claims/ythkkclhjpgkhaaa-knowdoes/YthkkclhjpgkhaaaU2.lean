/-
  A map of terms: storing where the key is there already, and how many keys it has. Conditions: each theorem's own premises.
-/
import Derived.Test.YthkkclhjpgkhaaaU1
import Derived.Maps.Own
namespace Go.Proofs.Ythkkclhjpgkhaaa
open Go.RowKit
theorem kfind_some (t : M.Tm) : ∀ (K : List (M.Tm × Int)) (i : Nat) (y : Int), kfind t K = some (i, y) → K[i]? = some (t, y)
  | [], i, y, h => by simp [kfind] at h
  | p :: K, i, y, h => by
    rw [kfind_cons] at h
    by_cases hp : t = p.1
    · rw [if_pos hp] at h
      simp only [Option.some.injEq, Prod.mk.injEq] at h
      obtain ⟨rfl, rfl⟩ := h
      subst hp
      rfl
    · rw [if_neg hp] at h
      obtain ⟨x, hx, hxe⟩ := Option.map_eq_some_iff.1 h
      obtain ⟨a, b⟩ := x
      simp only [Prod.mk.injEq] at hxe
      obtain ⟨rfl, rfl⟩ := hxe
      simpa using kfind_some t K a b hx
theorem run_staysT (t : M.Tm) (w : World) : (Instr.keyThatStays (tmV t) (tmV t)).run Try.prog w = .ok (tmV t) w := by
  have h : Instr.sameBits 10000 (tmV t) (tmV t) = true := by simp [tmV, Instr.sameBits]
  simp [Instr.keyThatStays, h]
theorem ent_modify {K : List (M.Tm × Int)} {es : Array MapEntry} (h : Ent K es.toList) (t : M.Tm) (x : Int) (i : Nat) :
    Ent (K.modify i (fun _ => (t, x))) (es.modify i fun e => { e with key := tmV t, val := .int .i64 x }).toList := by
  unfold Ent at h ⊢
  rw [Array.toList_modify]
  apply List.ext_getElem?
  intro j
  have hj := congrArg (fun l => l[j]?) h
  simp only [List.getElem?_map] at hj ⊢
  simp only [List.getElem?_modify]
  by_cases hij : i = j
  · subst hij
    simp only [if_true]
    cases h1 : es.toList[i]? with
    | none =>
      rw [h1] at hj
      cases h2 : K[i]? with
      | none => rfl
      | some p => rw [h2] at hj; cases hj
    | some e =>
      rw [h1] at hj
      cases h2 : K[i]? with
      | none => rw [h2] at hj; cases hj
      | some p => rfl
  · simp only [hij, if_false]
    simpa using hj
theorem run_storeT2 (t : M.Tm) (ht : M.fitT t) (x : Int) {W : World} {b : Nat} {K : List (M.Tm × Int)} (h : Mp W b K) {i : Nat} {y : Int} (hn : kfind t K = some (i, y)) :
    ∃ W', (Instr.mapUpdate 69 (.map (some b)) (tmV t) (.int .i64 x)).run Try.prog W = .ok () W' ∧ Mp W' b (K.modify i (fun _ => (t, x))) ∧ W.grownBy W' (some b) := by
  obtain ⟨es, clock, h1, h2⟩ := h
  have hl := (Array.getElem?_eq_some_iff.1 h1).1
  have hf := run_findT t W K es.toList h2
  rw [hn] at hf
  have hk : (es[i]?).map (·.key) = some (tmV t) := by
    have h3 := kfind_some t K i y hn
    have hj := congrArg (fun l => l[i]?) h2
    simp only [List.getElem?_map, h3, Array.getElem?_toList] at hj
    cases h4 : es[i]? with
    | none => rw [h4] at hj; cases hj
    | some e =>
      rw [h4] at hj
      simp only [Option.map_some, Option.some.injEq, Prod.mk.injEq] at hj
      rw [Option.map_some, hj.1]
  refine ⟨ChangeMaps.setBlock W b (.map (es.modify i fun e => { e with key := tmV t, val := .int .i64 x }) clock), ?_, ⟨_, clock, ?_, ent_modify h2 t x i⟩, ?_⟩
  · unfold Instr.mapUpdate
    simp [run_underlying Try.underlying69, MapKept.run_getObj_map h1, run_checkT _ t ht, hf, hk, run_staysT, MapKept.run_setObj_map _ h1, Result.andThen, ChangeMaps.setBlock]
  · simp [ChangeMaps.setBlock, hl]
  · refine ⟨rfl, rfl, rfl, by simp [ChangeMaps.setBlock], fun k _ hk => ?_⟩
    have : b ≠ k := fun e => hk (by rw [e])
    simp [ChangeMaps.setBlock, Array.getElem?_setIfInBounds_ne this]
/-- 'm[t] = x' of whatever key, at the operation -/
theorem wpList_storeA (w : World) {ops : Array Oper} {rest : List Oper} {o : Oper} {a : Act} {Q : Exit → Act → World → Prop} (hg : Region.wanted o (yielded ops a.tmps) = true) (m k v : Operand)
    (hop : o.op = Op.mapUpdate 69 m k v) (b : Nat) (K : List (M.Tm × Int)) (t : M.Tm) (x : Int) (hm : a.eval m = .map (some b)) (hk : a.eval k = tmV t) (hv : a.eval v = .int .i64 x) (ht : M.fitT t) (h : Mp w b K)
    (hK : ∀ w' K', Mp w' b K' → K'.length ≤ K.length + 1 → (kfind t K = none → K' = K ++ [(t, x)]) → ((kfind t K).isSome = true → K'.length = K.length) → w.grownBy w' (some b) → wpList Try.prog ops Q rest (a.put o.dst undef) w') : wpList Try.prog ops Q (o :: rest) a w := by
  refine wpList_wantedq hg fun K' hK' => ?_
  cases hn : kfind t K with
  | none =>
    obtain ⟨w', hrun, r1, r2⟩ := run_storeT t ht x h hn
    unfold Oper.wp
    simp [execOp, hop, hm, hk, hv, hrun, Result.andThen]
    exact hK' _ _ (hK w' _ r1 (by simp) (fun _ => rfl) (fun h => by rw [hn] at h; cases h) r2)
  | some p =>
    obtain ⟨i, y⟩ := p
    obtain ⟨w', hrun, r1, r2⟩ := run_storeT2 t ht x h hn
    unfold Oper.wp
    simp [execOp, hop, hm, hk, hv, hrun, Result.andThen]
    exact hK' _ _ (hK w' _ r1 (by simp) (fun h => by rw [hn] at h; cases h) (fun _ => by simp) r2)
theorem run_lenT {W : World} {b : Nat} {K : List (M.Tm × Int)} (h : Mp W b K) (ty : TypeId) : (Builtin.len_ #[69] ty #[.map (some b)]).run Try.prog W = .ok (.int .i64 K.length) W := by
  obtain ⟨es, clock, h1, h2⟩ := h
  have e : es.size = K.length := by
    have := congrArg List.length h2
    simpa using this
  rw [← e]
  simp [Builtin.len_, run_underlying Try.underlying69, MapKept.run_getObj_map h1, goInt, Result.andThen]
end Go.Proofs.Ythkkclhjpgkhaaa
