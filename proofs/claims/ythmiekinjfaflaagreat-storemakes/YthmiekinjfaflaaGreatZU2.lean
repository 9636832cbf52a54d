/-
  A map of terms: storing where the key is there already, and how many keys it has. Conditions: each theorem's own premises.
-/
import Derived.Test.YthmiekinjfaflaaGreatZQM
import Derived.Maps.Own
namespace Go.Proofs.YthmiekinjfaflaaGreat
open Go.RowKit
theorem kfind_some (t : M.Tm) : ∀ (K : List (M.Tm × Int)) (i : Nat) (y : Int), kfind t K = some (i, y) → K[i]? = some (t, y)
  | [], i, y, h => by simp [kfind] at h
  | p :: K, i, y, h => by
    rw [kfind_cons] at h
    by_cases hp : t = p.1
    · rw [if_pos hp] at h
      simp only [Option.some.injEq, Prod.mk.injEq] at h
      obtain ⟨rfl, rfl⟩ := h
      subst hp
      rfl
    · rw [if_neg hp] at h
      obtain ⟨x, hx, hxe⟩ := Option.map_eq_some_iff.1 h
      obtain ⟨a, b⟩ := x
      simp only [Prod.mk.injEq] at hxe
      obtain ⟨rfl, rfl⟩ := hxe
      simpa using kfind_some t K a b hx
theorem run_staysT (t : M.Tm) (w : World) : (Instr.keyThatStays (tmV t) (tmV t)).run Tryz.prog w = .ok (tmV t) w := by
  have h : Instr.sameBits 10000 (tmV t) (tmV t) = true := by simp [tmV, Instr.sameBits]
  simp [Instr.keyThatStays, h]
theorem ent_modify {K : List (M.Tm × Int)} {es : Array MapEntry} (h : Ent K es.toList) (t : M.Tm) (x : Int) (i : Nat) :
    Ent (K.modify i (fun _ => (t, x))) (es.modify i fun e => { e with key := tmV t, val := .int .i64 x }).toList := by
  unfold Ent at h ⊢
  rw [Array.toList_modify]
  apply List.ext_getElem?
  intro j
  have hj := congrArg (fun l => l[j]?) h
  simp only [List.getElem?_map] at hj ⊢
  simp only [List.getElem?_modify]
  by_cases hij : i = j
  · subst hij
    simp only [if_true]
    cases h1 : es.toList[i]? with
    | none =>
      rw [h1] at hj
      cases h2 : K[i]? with
      | none => rfl
      | some p => rw [h2] at hj; cases hj
    | some e =>
      rw [h1] at hj
      cases h2 : K[i]? with
      | none => rw [h2] at hj; cases hj
      | some p => rfl
  · simp only [hij, if_false]
    simpa using hj
set_option maxRecDepth 100000 in
theorem run_storeT2 (t : M.Tm) (ht : M.fitT t) (x : Int) {W : World} {b : Nat} {K : List (M.Tm × Int)} (h : Mp W b K) {i : Nat} {y : Int} (hn : kfind t K = some (i, y)) :
    ∃ W', (Instr.mapUpdate 62 (.map (some b)) (tmV t) (.int .i64 x)).run Tryz.prog W = .ok () W' ∧ Mp W' b (K.modify i (fun _ => (t, x))) ∧ W.grownBy W' (some b) := by
  obtain ⟨es, clock, h1, h2⟩ := h
  have hl := (Array.getElem?_eq_some_iff.1 h1).1
  have hf := run_findT t W K es.toList h2
  rw [hn] at hf
  have hk : (es[i]?).map (·.key) = some (tmV t) := by
    have h3 := kfind_some t K i y hn
    have hj := congrArg (fun l => l[i]?) h2
    simp only [List.getElem?_map, h3, Array.getElem?_toList] at hj
    cases h4 : es[i]? with
    | none => rw [h4] at hj; cases hj
    | some e =>
      rw [h4] at hj
      simp only [Option.map_some, Option.some.injEq, Prod.mk.injEq] at hj
      rw [Option.map_some, hj.1]
  refine ⟨ChangeMaps.setBlock W b (.map (es.modify i fun e => { e with key := tmV t, val := .int .i64 x }) clock), ?_, ⟨_, clock, ?_, ent_modify h2 t x i⟩, ?_⟩
  · unfold Instr.mapUpdate
    simp [run_underlying Tryz.underlying62, MapKept.run_getObj_map h1, run_checkT _ t ht, hf, hk, run_staysT, MapKept.run_setObj_map _ h1, Result.andThen, ChangeMaps.setBlock]
  · simp [ChangeMaps.setBlock, hl]
  · refine ⟨rfl, rfl, rfl, by simp [ChangeMaps.setBlock], fun k _ hk => ?_⟩
    have : b ≠ k := fun e => hk (by rw [e])
    simp [ChangeMaps.setBlock, Array.getElem?_setIfInBounds_ne this]
set_option maxRecDepth 100000 in
/-- 'm[t] = x' of whatever key, at the operation -/
theorem wpList_storeA (w : World) {ops : Array Oper} {rest : List Oper} {o : Oper} {a : Act} {Q : Exit → Act → World → Prop} (hg : Region.wanted o (yielded ops a.tmps) = true) (m k v : Operand)
    (hop : o.op = Op.mapUpdate 62 m k v) (b : Nat) (K : List (M.Tm × Int)) (t : M.Tm) (x : Int) (hm : a.eval m = .map (some b)) (hk : a.eval k = tmV t) (hv : a.eval v = .int .i64 x) (ht : M.fitT t) (h : Mp w b K)
    (hK : ∀ w' K', Mp w' b K' → K'.length ≤ K.length + 1 → (kfind t K = none → K' = K ++ [(t, x)]) → ((kfind t K).isSome = true → K'.length = K.length) → w.grownBy w' (some b) → wpList Tryz.prog ops Q rest (a.put o.dst undef) w') : wpList Tryz.prog ops Q (o :: rest) a w := by
  refine wpList_wantedq hg fun K' hK' => ?_
  cases hn : kfind t K with
  | none =>
    obtain ⟨w', hrun, r1, r2⟩ := run_storeT t ht x h hn
    unfold Oper.wp
    simp [execOp, hop, hm, hk, hv, hrun, Result.andThen]
    exact hK' _ _ (hK w' _ r1 (by simp) (fun _ => rfl) (fun h => by rw [hn] at h; cases h) r2)
  | some p =>
    obtain ⟨i, y⟩ := p
    obtain ⟨w', hrun, r1, r2⟩ := run_storeT2 t ht x h hn
    unfold Oper.wp
    simp [execOp, hop, hm, hk, hv, hrun, Result.andThen]
    exact hK' _ _ (hK w' _ r1 (by simp) (fun h => by rw [hn] at h; cases h) (fun _ => by simp) r2)
set_option maxRecDepth 100000 in
theorem run_lenT {W : World} {b : Nat} {K : List (M.Tm × Int)} (h : Mp W b K) (ty : TypeId) : (Builtin.len_ #[62] ty #[.map (some b)]).run Tryz.prog W = .ok (.int .i64 K.length) W := by
  obtain ⟨es, clock, h1, h2⟩ := h
  have e : es.size = K.length := by
    have := congrArg List.length h2
    simpa using this
  rw [← e]
  simp [Builtin.len_, run_underlying Tryz.underlying62, MapKept.run_getObj_map h1, goInt, Result.andThen]
end Go.Proofs.YthmiekinjfaflaaGreat
namespace Go.Proofs.YthmiekinjfaflaaGreat
open Go.RowKit
/-- what placesOf has stored of the first k terms -/
def Pls (A : List M.Tm) (k : Nat) (K : List (M.Tm × Int)) : Prop := (∀ j, j < k → M.mayB (M.at_ A j) j = true) ∧ ((K = kpl A k ∧ ∀ j, j < k → M.okAt A j) ∨ (K.length < k ∧ ∃ j, j < k ∧ ¬ M.okAt A j))
theorem Pls.zero (A : List M.Tm) : Pls A 0 [] := ⟨fun j hj => by omega, .inl ⟨rfl, fun j hj => by omega⟩⟩
theorem Pls.next {A : List M.Tm} {k : Nat} {K K' : List (M.Tm × Int)} {s : M.Tm} (h : Pls A k K) (hk : k < A.length) (hs : M.at_ A k = s) (hm : M.mayB s k = true) (h1 : K'.length ≤ K.length + 1) (h2 : kfind s K = none → K' = K ++ [(s, (k : Int))]) (h3 : (kfind s K).isSome = true → K'.length = K.length) : Pls A (k + 1) K' := by
  obtain ⟨ha, hb⟩ := h
  refine ⟨fun j hj => ?_, ?_⟩
  · rcases Nat.lt_or_ge j k with h | h
    · exact ha j h
    · obtain rfl : j = k := by omega
      rw [hs]; exact hm
  · rcases hb with ⟨rfl, hall⟩ | ⟨hl, j, hj, hno⟩
    · have hf := kfind_kpl A s k (by omega)
      have hkl : (kpl A k).length = k := by simp [kpl]
      cases hp : M.plc s (A.take k) with
      | none =>
        rw [hp, Option.map_none] at hf
        refine .inl ⟨by rw [h2 hf, kpl_succ, hs], fun j hj => ?_⟩
        rcases Nat.lt_or_ge j k with h | h
        · exact hall j h
        · obtain rfl : j = k := by omega
          exact ⟨by rw [hs]; exact hm, by rw [hs]; exact hp⟩
      | some i =>
        rw [hp, Option.map_some] at hf
        refine .inr ⟨by rw [h3 (by rw [hf]; rfl), hkl]; omega, k, by omega, fun h => ?_⟩
        have := h.2
        rw [hs, hp] at this
        cases this
    · exact .inr ⟨by omega, j, by omega, hno⟩
theorem Pls.all {A : List M.Tm} {K : List (M.Tm × Int)} (h : Pls A A.length K) (hl : A.length ≤ 65536) : (M.Ok A ∧ K = kpl A A.length ∧ K.length = A.length) ∨ (¬ M.Ok A ∧ K.length < A.length) := by
  rcases h.2 with ⟨h1, h2⟩ | ⟨h1, j, h2, h3⟩
  · exact .inl ⟨⟨hl, h2⟩, h1, by rw [h1]; simp [kpl]⟩
  · exact .inr ⟨fun h => h3 (h.2 j h2), h1⟩
/-- what placesOf comes to -/
def PlsC (A : List M.Tm) (w : World) (e : Ending) (w' : World) : Prop := (M.Ok A ∧ ∃ b, e = .returned (.tuple #[.map (some b), .int .i64 0]) ∧ Mp w' b (kpl A A.length) ∧ Below w.heap.size w w') ∨ (¬ M.Ok A ∧ e = .returned (.tuple #[.map none, .int .i64 1]) ∧ Below w.heap.size w w')
set_option maxRecDepth 100000 in
set_option maxHeartbeats 4000000 in
theorem placesOf_any (A : List M.Tm) (v1 : Value) (w : World) (u1 : Ts w v1 A) : Calls Tryz.prog 28 #[v1] w fun e w' => PlsC A w e w' := by
  obtain ⟨a1, c1, rfl, hp1, hp2, hp4⟩ := u1.form
  have hm : A.length ≤ maxLen := by omega
  unfold maxLen at hm
  have U := hidq (fun X (hb : Below w.heap.size w X) => u1.below hb)
  have HP4 := hidq hp4
  clear hp4 u1
  have hmk := run_makeMapT
  by_cases h16 : A.length ≤ 65536
  · have HC := hidq (fun (K : List (M.Tm × Int)) (h : Pls A A.length K) => h.all h16)
    generalize hn : A.length = n at *
    have HN := hidq hn
    clear hn
    have HM0 := hidq (Mp.new w)
    have HB0 := hidq (below_one (o := .map #[] 0) (Below.refl w.heap.size w))
    go_enter Tryz.func28, Tryz.ntmps28
    go_wp2
    go_loopw [15] (fun i wr => ∃ (k : Nat) (K : List (M.Tm × Int)), k ≤ n ∧ i = .int .i64 k ∧ Below w.heap.size w wr ∧ Mp wr w.heap.size K ∧ Pls A k K) (fun i _ => n - (intOf i).toNat)
    case atStart => exact ⟨0, [], by omega, rfl, HB0.out, HM0.out, Pls.zero A⟩
    case round =>
      obtain ⟨k, K, hk, rfl, hb, hmp, hall⟩ := hrel
      have HA := hidq hall
      have HB := hidq hb
      have HMP := hidq hmp
      clear hall hmp HM0 HB0
      by_cases hlt : k < n
      · obtain ⟨b1, o1, rfl⟩ := HP4.out (by omega)
        obtain ⟨x1, x2, x3⟩ := Ts.cell (U.out _ hb) (k := k) (by rw [HN.out]; exact hlt)
        have hft := Ts.fit (U.out _ hb) (k := k) (by rw [HN.out]; exact hlt)
        clear hb
        obtain ⟨s, hs⟩ : ∃ s, M.at_ A k = s := ⟨_, rfl⟩
        rw [hs] at x1 x2 x3 hft
        have HFT := hidq hft
        have HS := hidq hs
        have X := hidq (Bx3.new wr s)
        have HB1 := hidq (below_one (o := .cells #[.int .i64 s.1, .int .i64 s.2.1, .int .i64 s.2.2] 39) HB.out)
        have HM1 := hidq (HMP.out.alloc (.cells #[.int .i64 s.1, .int .i64 s.2.1, .int .i64 s.2.2] 39))
        clear hs hft
        by_cases hM : M.mayB s k = true
        · have HM := hidq hM
          clear hM
          go_wp2_with (first | (go_at_call 50; refine (mayBe_eq HM.out _).mono ?_; rintro r w2 ⟨rfl, hb2⟩; have B2 := hidq (below_trans HB1.out hb2); have M2 := hidq (HM1.out.below hb2); have X2 := X.out.below hb2; have c2 := X2.cells; clear hb2) | (at_mapUpdate; refine wpList_storeA _ rfl _ _ _ rfl w.heap.size K s k rfl rfl rfl HFT.out M2.out ?_; intro w3 K' hm3 hl1 hl2 hl3 hg3))
          have B3 := hidq (B2.out.grown hg3 B2.out.size (fun q hq => by cases hq; exact Nat.le_refl _))
          have M3 := hidq hm3
          have HA3 := hidq (Pls.next HA.out (by rw [HN.out]; exact hlt) HS.out HM.out hl1 hl2 hl3)
          clear hm3 hg3 hl1 hl2 hl3
          go_roundw
          case rel => exact ⟨k + 1, K', by omega, by go_num, B3.out, M3.out, HA3.out⟩
          case measure => simp [intOf]; omega
        · have HM := hidq (show M.mayB s k = false by simpa using hM)
          have HNO := hidq (show ¬ M.Ok A from fun h => hM (by rw [← HS.out]; exact (h.2 k (by rw [HN.out]; exact hlt)).1))
          clear hM
          go_wp2_with (first | (go_at_call 50; refine (mayBe_eq HM.out _).mono ?_; rintro r w2 ⟨rfl, hb2⟩; have B2 := hidq (below_trans HB1.out hb2); clear hb2))
          go_ret2
          exact .inr ⟨HNO.out, rfl, B2.out⟩
      · clear hb
        obtain rfl : k = n := by omega
        have hlen := fun ty => run_lenT HMP.out ty
        rcases HC.out K HA.out with ⟨hok, hK, hKl⟩ | ⟨hno, hKl⟩
        · have HOK := hidq hok
          have HK := hidq hK
          rw [hKl] at hlen
          clear hok hK hKl
          go_wp2
          go_ret2
          exact .inl ⟨HOK.out, _, rfl, by rw [HN.out, ← HK.out]; exact HMP.out, HB.out⟩
        · have HNO := hidq hno
          clear hno
          have hne : ¬ (K.length : Int) = k := by omega
          go_wp2
          go_ret2
          exact .inr ⟨HNO.out, rfl, HB.out⟩
  · have h16i : (65536 : Int) < A.length := by omega
    have HNO := hidq (show ¬ M.Ok A from fun h => h16 h.1)
    go_enter Tryz.func28, Tryz.ntmps28
    go_wp2
    go_ret2
    exact .inr ⟨HNO.out, rfl, Below.refl _ _⟩
end Go.Proofs.YthmiekinjfaflaaGreat
namespace Go.Proofs.YthmiekinjfaflaaGreat
open Go.RowKit
set_option maxRecDepth 100000 in
theorem places_ok {A : List M.Tm} (hA : M.Ok A) {v : Value} (w : World) (u : Ts w v A) :
    Calls Tryz.prog 28 #[v] w fun e w' => ∃ b, e = .returned (.tuple #[.map (some b), .int .i64 0]) ∧ Mp w' b (kpl A A.length) ∧ Below w.heap.size w w' := by
  refine (placesOf_any A v w u).mono fun e w' h => ?_
  rcases h with ⟨_, h⟩ | ⟨h, _⟩
  · exact h
  · exact absurd hA h
set_option maxRecDepth 100000 in
theorem places_no {A : List M.Tm} (hA : ¬ M.Ok A) {v : Value} (w : World) (u : Ts w v A) :
    Calls Tryz.prog 28 #[v] w fun e w' => e = .returned (.tuple #[.map none, .int .i64 1]) ∧ Below w.heap.size w w' := by
  refine (placesOf_any A v w u).mono fun e w' h => ?_
  rcases h with ⟨h, _⟩ | ⟨_, h⟩
  · exact absurd h hA
  · exact h
set_option maxRecDepth 100000 in
theorem check_any (A : List M.Tm) (v : Value) (w : World) (u : Ts w v A) :
    Calls Tryz.prog 14 #[v] w fun e w' => e = .returned (.int .i64 (M.chkE A)) ∧ Below w.heap.size w w' := by
  have U := hidq u
  clear u
  by_cases hA : M.Ok A
  · have e : M.chkE A = 0 := if_pos hA
    rw [e]
    have HA := hidq hA
    clear hA e
    go_enter Tryz.func14, Tryz.ntmps14
    go_wp2_with (first | (go_at_call 28; refine (places_ok HA.out _ U.out).mono ?_; rintro r w1 ⟨b, rfl, hm1, hb1⟩; have B1 := hidq hb1; clear hm1 hb1))
    go_ret
    exact ⟨rfl, B1.out⟩
  · have e : M.chkE A = 1 := if_neg hA
    rw [e]
    have HA := hidq hA
    clear hA e
    go_enter Tryz.func14, Tryz.ntmps14
    go_wp2_with (first | (go_at_call 28; refine (places_no HA.out _ U.out).mono ?_; rintro r w1 ⟨rfl, hb1⟩; have B1 := hidq hb1; clear hb1))
    go_ret
    exact ⟨rfl, B1.out⟩
set_option maxRecDepth 100000 in
theorem check_eq {A : List M.Tm} {r : Int} (h : M.chkE A = r) {v : Value} (w : World) (u : Ts w v A) :
    Calls Tryz.prog 14 #[v] w fun e w' => e = .returned (.int .i64 r) ∧ Below w.heap.size w w' := by subst h; exact check_any A v w u
set_option maxRecDepth 100000 in
set_option maxHeartbeats 4000000 in
theorem find_any (A : List M.Tm) (t : M.Tm) (ht : M.fitT t) (v1 : Value) (w : World) (u1 : Ts w v1 A) :
    Calls Tryz.prog 103 #[v1, .agg #[.int .i64 t.1, .int .i64 t.2.1, .int .i64 t.2.2]] w fun e w' => e = .returned (.tuple #[.int .i64 (M.findV A t), .int .i64 (M.findE A t)]) ∧ Below w.heap.size w w' := by
  obtain ⟨a1, c1, rfl, hp1, hp2, hp4⟩ := u1.form
  have HB := hidq (below_one (o := .cells #[.int .i64 t.1, .int .i64 t.2.1, .int .i64 t.2.2] 39) (Below.refl w.heap.size w))
  have X0 := hidq (Bx3.new w t)
  have U0 := hidq (u1.alloc (.cells #[.int .i64 t.1, .int .i64 t.2.1, .int .i64 t.2.2] 39))
  have HF := hidq ht
  clear hp4 u1 ht
  by_cases hc : M.Ok A
  · have HA := hidq hc
    by_cases hm : M.mayB t A.length = true
    · have HM := hidq hm
      have HK := hidq (kfind_kpl A t A.length (Nat.le_refl _))
      rw [List.take_length] at HK
      cases hp : M.plc t A with
      | none =>
        have e1 : M.findE A t = 4 := by unfold M.findE; rw [if_pos ⟨hc, hm⟩, if_pos hp]
        have e2 : M.findV A t = 0 := by unfold M.findV; rw [e1]; rfl
        rw [e1, e2]
        rw [hp, Option.map_none] at HK
        clear hp hm hc e1 e2
        go_enter Tryz.func103, Tryz.ntmps103
        go_wp2_with (first | (go_at_call 28; refine (places_ok HA.out _ U0.out).mono ?_; rintro r w1 ⟨bm, rfl, hm1, hb1⟩; have X1 := X0.out.below hb1; have c1 := X1.cells; have M1 := hidq hm1; have B1 := hidq (below_trans HB.out hb1); clear hb1 hm1) | (go_at_call 50; refine (mayBe_eq HM.out _).mono ?_; rintro r w2 ⟨rfl, hb2⟩; have M2 := hidq (M1.out.below hb2); have hlook := run_lookT t HF.out M2.out; rw [HK.out] at hlook; have X2 := X1.below hb2; have c2 := X2.cells; have B2 := hidq (below_trans B1.out hb2); clear hb2; unfold tmV at hlook))
        go_ret2
        exact ⟨rfl, B2.out⟩
      | some i =>
        have e1 : M.findE A t = 0 := by unfold M.findE; rw [if_pos ⟨hc, hm⟩, if_neg (by rw [hp]; simp)]
        have e2 : M.findV A t = i := by unfold M.findV; rw [e1, if_pos rfl, M.plcI_some hp]
        rw [e1, e2]
        rw [hp, Option.map_some] at HK
        clear hp hm hc e1 e2
        go_enter Tryz.func103, Tryz.ntmps103
        go_wp2_with (first | (go_at_call 28; refine (places_ok HA.out _ U0.out).mono ?_; rintro r w1 ⟨bm, rfl, hm1, hb1⟩; have X1 := X0.out.below hb1; have c1 := X1.cells; have M1 := hidq hm1; have B1 := hidq (below_trans HB.out hb1); clear hb1 hm1) | (go_at_call 50; refine (mayBe_eq HM.out _).mono ?_; rintro r w2 ⟨rfl, hb2⟩; have M2 := hidq (M1.out.below hb2); have hlook := run_lookT t HF.out M2.out; rw [HK.out] at hlook; have X2 := X1.below hb2; have c2 := X2.cells; have B2 := hidq (below_trans B1.out hb2); clear hb2; unfold tmV at hlook))
        go_ret2
        exact ⟨rfl, B2.out⟩
    · have HM := hidq (show M.mayB t A.length = false by simpa using hm)
      have e1 : M.findE A t = 1 := by unfold M.findE; rw [if_neg fun h => hm h.2]
      have e2 : M.findV A t = 0 := by unfold M.findV; rw [e1]; rfl
      rw [e1, e2]
      clear hm hc e1 e2
      go_enter Tryz.func103, Tryz.ntmps103
      go_wp2_with (first | (go_at_call 28; refine (places_ok HA.out _ U0.out).mono ?_; rintro r w1 ⟨bm, rfl, hm1, hb1⟩; have X1 := X0.out.below hb1; have c1 := X1.cells; have M1 := hidq hm1; have B1 := hidq (below_trans HB.out hb1); clear hb1 hm1) | (go_at_call 50; refine (mayBe_eq HM.out _).mono ?_; rintro r w2 ⟨rfl, hb2⟩; have B2 := hidq (below_trans B1.out hb2); clear hb2))
      go_ret2
      exact ⟨rfl, B2.out⟩
  · have HA := hidq hc
    have e1 : M.findE A t = 1 := by unfold M.findE; rw [if_neg fun h => hc h.1]
    have e2 : M.findV A t = 0 := by unfold M.findV; rw [e1]; rfl
    rw [e1, e2]
    clear hc e1 e2
    go_enter Tryz.func103, Tryz.ntmps103
    go_wp2_with (first | (go_at_call 28; refine (places_no HA.out _ U0.out).mono ?_; rintro r w1 ⟨rfl, hb1⟩; have B1 := hidq (below_trans HB.out hb1); clear hb1))
    go_ret2
    exact ⟨rfl, B1.out⟩
set_option maxRecDepth 100000 in
theorem find_eq {A : List M.Tm} {t : M.Tm} (ht : M.fitT t) {x n : Int} (h : M.findV A t = x) (hn : M.findE A t = n) {v : Value} (w : World) (u : Ts w v A) :
    Calls Tryz.prog 103 #[v, .agg #[.int .i64 t.1, .int .i64 t.2.1, .int .i64 t.2.2]] w fun e w' => e = .returned (.tuple #[.int .i64 x, .int .i64 n]) ∧ Below w.heap.size w w' := by subst h; subst hn; exact find_any A t ht v w u
end Go.Proofs.YthmiekinjfaflaaGreat
