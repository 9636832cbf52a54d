/-
  A map whose keys are terms and whose values are whole numbers, in memory, as a list; looking up, storing a new one. Conditions: each theorem's own premises.
-/
import Derived.Test.YthmiekinjfaflaaGreatRows
import Derived.Test.YthmiekinjfaflaaGreatZT2
import Derived.Test.YthmiekinjfaflaaGreatZT8
import Derived.WideKeyRuns
import Derived.DeepKeys3
import Derived.MakeChecks
namespace Go.Proofs.YthmiekinjfaflaaGreat
open Go.RowKit
theorem wfI {x : Int} (h : M.fitI x) : (Lit.int .i64 x).wf = true := by
  obtain ⟨h0, h1⟩ := h
  have e0 : IntKind.i64.min = -9223372036854775808 := by decide
  have e1 : IntKind.i64.max = 9223372036854775807 := by decide
  simp only [Lit.wf, e0, e1, Bool.and_eq_true, decide_eq_true_eq]
  exact ⟨h0, h1⟩
set_option maxRecDepth 100000 in
theorem keyLitI {x : Int} (h : M.fitI x) : Tryz.prog.keyLits 1 3 [.int .i64 x] = some [.int .i64 x] := by
  unfold Program.keyLits
  rw [Tryz.underlying3]
  simp only [wfI h, and_self, if_true]
set_option maxRecDepth 100000 in
theorem keyLitsT (t : M.Tm) (h : M.fitT t) : Tryz.prog.keyLits 2 39 [.int .i64 t.1, .int .i64 t.2.1, .int .i64 t.2.2] = some [.int .i64 t.1, .int .i64 t.2.1, .int .i64 t.2.2] := by
  unfold Program.keyLits
  rw [Tryz.underlying39]
  simp [Tryz.cellsTerm, Tryz.cellsInt, keyLitI h.1, keyLitI h.2.1, keyLitI h.2.2]
set_option maxRecDepth 100000 in
theorem run_checkT (em : Bool) (t : M.Tm) (h : M.fitT t) (w : World) : (Instr.checkKey em 10000 39 (tmV t)).run Tryz.prog w = .ok () w := by
  have hk : Tryz.prog.keyTypeAt 2 39 = true := by kernel_rfl
  exact run_checkKey_deep (P := Tryz.prog) em 9998 2 39 hk w 2 (tmV t) _ (by unfold Value.formed tmV; rw [Tryz.underlying39]; simp [Tryz.cellsTerm]) (keyLitsT t h)
/-- a map's entries -/
def Ent (K : List (M.Tm × Int)) (es : List MapEntry) : Prop := es.map (fun e => (e.key, e.val)) = K.map (fun p => (tmV p.1, .int .i64 p.2))
def Mp (W : World) (b : Nat) (K : List (M.Tm × Int)) : Prop := ∃ es clock, W.heap[b]? = some (.map es clock) ∧ Ent K es.toList
theorem Mp.lt {W : World} {b : Nat} {K : List (M.Tm × Int)} (h : Mp W b K) : b < W.heap.size := by
  obtain ⟨es, clock, h1, _⟩ := h
  exact (Array.getElem?_eq_some_iff.1 h1).1
theorem Mp.below {W W' : World} {b : Nat} {K : List (M.Tm × Int)} (h : Mp W b K) (hb : Below W.heap.size W W') : Mp W' b K := by
  have hl := h.lt
  obtain ⟨es, clock, h1, h2⟩ := h
  exact ⟨es, clock, (hb.block b hl).trans h1, h2⟩
theorem Mp.alloc {W : World} {b : Nat} {K : List (M.Tm × Int)} (h : Mp W b K) (o : Obj) : Mp (W.alloc o) b K := h.below ((Below.refl _ _).alloc (Nat.le_refl _) o)
theorem Mp.new (W : World) : Mp (W.alloc (.map #[] 0)) W.heap.size [] := ⟨#[], 0, heap_alloc_new W _, rfl⟩
/-- where a key is, and its value -/
def kfind (t : M.Tm) : List (M.Tm × Int) → Option (Nat × Int)
  | [] => none
  | p :: K => if t = p.1 then some (0, p.2) else (kfind t K).map (fun x => (x.1 + 1, x.2))
set_option maxRecDepth 100000 in
theorem eqT' (s t : M.Tm) (w : World) : (Op.equal 39 (tmV s) (tmV t)).run Tryz.prog w = .ok (decide (s = t)) w := eqT s.1 s.2.1 s.2.2 t.1 t.2.1 t.2.2 w
set_option maxRecDepth 100000 in
theorem run_asking (t : M.Tm) (w : World) : ∀ (K : List (M.Tm × Int)) (es : List MapEntry) (i : Nat), Ent K es → (Instr.findAsking 39 (tmV t) es i).run Tryz.prog w = .ok ((kfind t K).map (fun x => (i + x.1, .int .i64 x.2))) w
  | [], [], i, _ => rfl
  | [], e :: es, i, h => by simp [Ent] at h
  | p :: K, [], i, h => by simp [Ent] at h
  | p :: K, e :: es, i, h => by
    simp only [Ent, List.map_cons, List.cons.injEq, Prod.mk.injEq] at h
    obtain ⟨⟨h1, h2⟩, h3⟩ := h
    unfold Instr.findAsking kfind
    rw [h1, h2]
    simp only [Sem.run_bind, eqT' t p.1 w, Result.andThen_ok]
    by_cases hp : t = p.1
    · simp [hp]
    · have := run_asking t w K es (i + 1) h3
      simp only [hp, decide_false, if_false, Bool.false_eq_true, this]
      cases kfind t K with
      | none => rfl
      | some x =>
        simp only [Option.map_some]
        rw [show i + 1 + x.1 = i + (x.1 + 1) by omega]
set_option maxRecDepth 100000 in
theorem run_findT (t : M.Tm) (w : World) (K : List (M.Tm × Int)) (es : List MapEntry) (h : Ent K es) : (Instr.findKey 39 (tmV t) es).run Tryz.prog w = .ok ((kfind t K).map (fun x => (x.1, .int .i64 x.2))) w := by
  rw [run_findKey_eq w (by rw [Tryz.underlying39])]
  have := run_asking t w K es 0 h
  simpa using this
set_option maxRecDepth 100000 in
theorem run_lookT (t : M.Tm) (ht : M.fitT t) {W : World} {b : Nat} {K : List (M.Tm × Int)} (h : Mp W b K) :
    (Instr.lookup 62 (.map (some b)) (tmV t) true).run Tryz.prog W = .ok (.tuple #[.int .i64 (match kfind t K with | some x => x.2 | none => 0), .bool (kfind t K).isSome]) W := by
  obtain ⟨es, clock, h1, h2⟩ := h
  have hz : (zeroValue 3).run Tryz.prog W = .ok (.int .i64 0) W := by kernel_rfl
  unfold Instr.lookup
  have hf := run_findT t W K es.toList h2
  cases hk : kfind t K with
  | none =>
    rw [hk] at hf
    simp [run_underlying Tryz.underlying62, MapKept.run_getObj_map h1, run_checkT _ t ht, hf, hz]
  | some x =>
    rw [hk] at hf
    simp [run_underlying Tryz.underlying62, MapKept.run_getObj_map h1, run_checkT _ t ht, hf]
set_option maxRecDepth 100000 in
theorem run_storeT (t : M.Tm) (ht : M.fitT t) (x : Int) {W : World} {b : Nat} {K : List (M.Tm × Int)} (h : Mp W b K) (hn : kfind t K = none) :
    ∃ W', (Instr.mapUpdate 62 (.map (some b)) (tmV t) (.int .i64 x)).run Tryz.prog W = .ok () W' ∧ Mp W' b (K ++ [(t, x)]) ∧ W.grownBy W' (some b) := by
  obtain ⟨es, clock, h1, h2⟩ := h
  have hl := (Array.getElem?_eq_some_iff.1 h1).1
  have hf := run_findT t W K es.toList h2
  rw [hn] at hf
  refine ⟨ChangeMaps.setBlock W b (.map (es.push { key := tmV t, val := .int .i64 x, born := clock }) (clock + 1)), ?_, ⟨es.push { key := tmV t, val := .int .i64 x, born := clock }, clock + 1, ?_, ?_⟩, ?_⟩
  · unfold Instr.mapUpdate
    simp [run_underlying Tryz.underlying62, MapKept.run_getObj_map h1, run_checkT _ t ht, hf, MapKept.run_setObj_map _ h1, Result.andThen, ChangeMaps.setBlock]
  · simp [ChangeMaps.setBlock, hl]
  · unfold Ent at h2 ⊢
    rw [Array.toList_push, List.map_append, List.map_append, h2]
    rfl
  · refine ⟨rfl, rfl, rfl, by simp [ChangeMaps.setBlock], fun k _ hk => ?_⟩
    have : b ≠ k := fun e => hk (by rw [e])
    simp [ChangeMaps.setBlock, Array.getElem?_setIfInBounds_ne this]
set_option maxRecDepth 100000 in
/-- 'm[t] = x' of a new key, at the operation -/
theorem wpList_storeT (w : World) {ops : Array Oper} {rest : List Oper} {o : Oper} {a : Act} {Q : Exit → Act → World → Prop} (hg : Region.wanted o (yielded ops a.tmps) = true) (m k v : Operand)
    (hop : o.op = Op.mapUpdate 62 m k v) (b : Nat) (K : List (M.Tm × Int)) (t : M.Tm) (x : Int) (hm : a.eval m = .map (some b)) (hk : a.eval k = tmV t) (hv : a.eval v = .int .i64 x) (ht : M.fitT t) (h : Mp w b K) (hn : kfind t K = none)
    (hK : ∀ w', Mp w' b (K ++ [(t, x)]) → w.grownBy w' (some b) → wpList Tryz.prog ops Q rest (a.put o.dst undef) w') : wpList Tryz.prog ops Q (o :: rest) a w := by
  refine wpList_wantedq hg fun K' hK' => ?_
  obtain ⟨w', hrun, r1, r2⟩ := run_storeT t ht x h hn
  unfold Oper.wp
  simp [execOp, hop, hm, hk, hv, hrun, Result.andThen]
  exact hK' _ _ (hK w' r1 r2)
set_option maxRecDepth 100000 in
theorem run_makeMapT (n : Int) (w : World) : (Instr.makeMap 62 (some (.int .i64 n))).run Tryz.prog w = .ok (.map (some w.heap.size)) (w.alloc (.map #[] 0)) := by
  simp [Instr.makeMap, run_underlying Tryz.underlying62, asInt]
  rfl
/-- the first k terms, each with its place -/
def kpl (A : List M.Tm) (k : Nat) : List (M.Tm × Int) := (List.range k).map (fun j : Nat => (M.at_ A j, (j : Int)))
theorem kpl_succ (A : List M.Tm) (k : Nat) : kpl A (k + 1) = kpl A k ++ [(M.at_ A k, (k : Int))] := by unfold kpl; rw [List.range_succ, List.map_append]; rfl
theorem kfind_cons (t : M.Tm) (p : M.Tm × Int) (K : List (M.Tm × Int)) : kfind t (p :: K) = if t = p.1 then some (0, p.2) else (kfind t K).map (fun x => (x.1 + 1, x.2)) := rfl
theorem kfind_append (t : M.Tm) : ∀ (K L : List (M.Tm × Int)), kfind t (K ++ L) = match kfind t K with | some x => some x | none => (kfind t L).map (fun x => (x.1 + K.length, x.2))
  | [], L => by
    show kfind t L = (kfind t L).map (fun x => (x.1 + 0, x.2))
    cases kfind t L <;> rfl
  | p :: K, L => by
    rw [List.cons_append, kfind_cons, kfind_cons]
    by_cases h : t = p.1
    · rw [if_pos h, if_pos h]
    · rw [if_neg h, if_neg h, kfind_append t K L]
      cases kfind t K with
      | some x => rfl
      | none =>
        cases kfind t L with
        | none => rfl
        | some x => simp [Nat.add_assoc]
theorem kfind_kpl (A : List M.Tm) (t : M.Tm) : ∀ k, k ≤ A.length → kfind t (kpl A k) = (M.plc t (A.take k)).map (fun i : Nat => (i, (i : Int)))
  | 0, _ => by simp [kpl, kfind, M.plc]
  | k + 1, h => by
    have ih := kfind_kpl A t k (by omega)
    have e : A.take (k + 1) = A.take k ++ [M.at_ A k] := by
      rw [List.take_succ_eq_append_getElem (by omega)]
      congr 2
      simp [M.at_, show k < A.length by omega]
    rw [kpl_succ, kfind_append, ih, e]
    cases hp : M.plc t (A.take k) with
    | some i => rw [M.plc_append hp]; rfl
    | none =>
      have hl : (A.take k).length = k := by rw [List.length_take]; omega
      have hl2 : (kpl A k).length = k := by simp [kpl]
      have key : ∀ (l : List M.Tm), M.plc t l = none → M.plc t (l ++ [M.at_ A k]) = if t = M.at_ A k then some l.length else none := by
        intro l
        induction l with
        | nil => intro _; by_cases h : t = M.at_ A k <;> simp [M.plc, h, eq_comm]
        | cons y l ih =>
          intro h
          unfold M.plc at h
          by_cases hy : y = t
          · rw [if_pos hy] at h; cases h
          · rw [if_neg hy] at h
            rw [List.cons_append]
            unfold M.plc
            rw [if_neg hy, ih (by simpa using h)]
            split <;> simp
      rw [key _ hp, hl]
      by_cases h : t = M.at_ A k
      · simp [kfind, h, hl2]
      · simp [kfind, h]
end Go.Proofs.YthmiekinjfaflaaGreat
namespace Go.Proofs.YthmiekinjfaflaaGreat
open Go.RowKit
set_option maxRecDepth 100000 in
theorem ahead_any (k i : Int) (w : World) (B : Nat) (h : w.cell? ⟨B, 0, none⟩ = some (.int .i64 i)) :
    Calls Tryz.prog 70 #[.int .i64 k, .pointer (some ⟨B, 0, none⟩)] w fun e w' => e = .returned (.bool (M.ahd k i)) ∧ w' = w := by
  unfold M.ahd
  by_cases c1 : 0 ≤ k <;> by_cases c2 : k < i <;> (go_enter Tryz.func70, Tryz.ntmps70; go_wp2; go_ret; exact ⟨by simp [c1, c2], rfl⟩)
set_option maxRecDepth 100000 in
theorem ahead_eq {k i : Int} {r : Bool} (hr : M.ahd k i = r) {w : World} {B : Nat} (h : w.cell? ⟨B, 0, none⟩ = some (.int .i64 i)) :
    Calls Tryz.prog 70 #[.int .i64 k, .pointer (some ⟨B, 0, none⟩)] w fun e w' => e = .returned (.bool r) ∧ w' = w := by subst hr; exact ahead_any k i w B h
set_option maxRecDepth 100000 in
theorem box_cell (w : World) (o : Obj) (i : Int) : ((w.alloc o).alloc (.cells #[.int .i64 i] 3)).cell? ⟨w.heap.size + 1, 0, none⟩ = some (.int .i64 i) := by
  have h := heap_alloc_new (w.alloc o) (.cells #[.int .i64 i] 3)
  rw [show (w.alloc o).heap.size = w.heap.size + 1 by simp] at h
  unfold World.cell?
  rw [h]
  rfl
set_option maxRecDepth 100000 in
set_option maxHeartbeats 4000000 in
theorem mayBe_any (t : M.Tm) (i : Int) (w : World) :
    Calls Tryz.prog 50 #[tmV t, .int .i64 i] w fun e w' => e = .returned (.bool (M.mayB t i)) ∧ Below w.heap.size w w' := by
  obtain ⟨k, a, b⟩ := t
  unfold tmV
  dsimp only
  have HC := hidq (fun o => box_cell w o i)
  have T1 := hidq trivial
  by_cases h1 : k = 1
  · rw [M.mayB_1 h1]
    subst h1
    dsimp only
    by_cases c1 : 0 ≤ a <;> by_cases c2 : a ≤ 1048576 <;> by_cases c3 : b = 0 <;> (first | (exfalso; omega) | (go_enter Tryz.func50, Tryz.ntmps50; go_wp2; go_ret; exact ⟨by simp [c1, c2, c3], below_one (below_one (Below.refl _ _))⟩))
  · by_cases h2 : k = 2 ∨ k = 3 ∨ k = 4
    · rw [M.mayB_2 h2]
      obtain ⟨r1, H1⟩ : ∃ r, Hid (M.ahd a i = r) := ⟨_, rfl⟩
      dsimp only
      rw [H1.out]
      rcases h2 with rfl | rfl | rfl <;> cases r1 <;> by_cases c3 : b = 0 <;> (go_enter Tryz.func50, Tryz.ntmps50; go_wp2_with (first | (go_at_call 70; clear T1; refine (ahead_eq H1.out (HC.out _)).mono ?_; rintro r w1 ⟨rfl, hw1⟩; subst w1)); go_ret; exact ⟨by simp [c3], below_one (below_one (Below.refl _ _))⟩)
    · by_cases h5 : k = 5
      · rw [M.mayB_5 h5]
        subst h5
        obtain ⟨r1, H1⟩ : ∃ r, Hid (M.ahd a i = r) := ⟨_, rfl⟩
        obtain ⟨r2, H2⟩ : ∃ r, Hid (M.ahd b i = r) := ⟨_, rfl⟩
        dsimp only
        rw [H1.out, H2.out]
        cases r1 <;> cases r2 <;> (go_enter Tryz.func50, Tryz.ntmps50; go_wp2_with (first | (go_at_call 70; clear T1; refine (ahead_eq H1.out (HC.out _)).mono ?_; rintro r w1 ⟨rfl, hw1⟩; subst w1) | (go_at_call 70; refine (ahead_eq H2.out (HC.out _)).mono ?_; rintro r w1 ⟨rfl, hw1⟩; subst w1)); go_ret; exact ⟨rfl, below_one (below_one (Below.refl _ _))⟩)
      · obtain ⟨h2, h3, h4⟩ : ¬ k = 2 ∧ ¬ k = 3 ∧ ¬ k = 4 := ⟨fun h => by omega, fun h => by omega, fun h => by omega⟩
        rw [M.mayB_0 h1 h2 h3 h4 h5]
        go_enter Tryz.func50, Tryz.ntmps50
        go_wp2
        go_ret
        exact ⟨rfl, below_one (below_one (Below.refl _ _))⟩
set_option maxRecDepth 100000 in
theorem mayBe_eq {t : M.Tm} {i : Int} {r : Bool} (h : M.mayB t i = r) (w : World) :
    Calls Tryz.prog 50 #[.agg #[.int .i64 t.1, .int .i64 t.2.1, .int .i64 t.2.2], .int .i64 i] w fun e w' => e = .returned (.bool r) ∧ Below w.heap.size w w' := by subst h; exact mayBe_any t i w
end Go.Proofs.YthmiekinjfaflaaGreat
