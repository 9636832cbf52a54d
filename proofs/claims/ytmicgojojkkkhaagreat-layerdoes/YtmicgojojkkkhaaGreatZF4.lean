/-
  'append' of a slice of numbers, whatever it is, to one that the call owns. Conditions: each theorem's own premises.
-/
import Derived.Test.YtmicgojojkkkhaaGreatZS1
import Derived.Deep.AppendSrc
import Derived.Lib.AppendZerosOnto
namespace Go.Proofs.YtmicgojojkkkhaaGreat
open Go.RowKit
theorem setCells_nil (w : World) (b off : Nat) : w.setCells b off [] = w := rfl
/-- 'append(own, nil...)': the same -/
theorem run_append_own_nil {P : Program} (w : World) (base : Nat) (t ty e : TypeId) (i : TypeInfo) (ht : P.underlying t = some (.slice e)) (hi : P.info? e = some i) (size : Nat)
    (v : Value) (n : Nat) (xs : List Value) (hown : w.ownsRow base e size v n xs) (c : Nat) :
    (Builtin.append_ #[t, t] ty #[v, .slice none 0 c]).run P w = .ok v w := by
  rcases hown.2 with ⟨rfl, rfl⟩ | ⟨g, cap, cur, rfl, hbg, hg, hnc, hcm, hcs, htake⟩
  · simp [Builtin.append_, run_underlying ht, sizeOf, typeInfo, hi, Builtin.lenOf, Builtin.firstCells]
  · have := run_append_room_src (P := P) w t t ty e i ht hi g 0 n cap (.slice none 0 c) 0 [] (Src.ofNil w ht c) (by omega) (by simp) (by simp)
    rw [setCells_nil] at this
    simpa using this
section
variable {P : Program} {w : World}
theorem wpList_wanted {ops : Array Oper} {rest : List Oper} {o : Oper} {a : Act} {Q : Exit → Act → World → Prop} (hg : Region.wanted o (yielded ops a.tmps) = true)
    (h : ∀ K : Act → World → Prop, (∀ a w, wpList P ops Q rest a w → K a w) → o.wp P a w K Q) : wpList P ops Q (o :: rest) a w :=
  wpList_step fun K hK => by rw [if_pos hg]; exact h K hK
theorem wpList_append_us {ops : Array Oper} {rest : List Oper} {o : Oper} {a : Act} {Q : Exit → Act → World → Prop} (hgd : Region.wanted o (yielded ops a.tmps) = true) (s x : Operand) (t : TypeId)
    (ho : o.op = .call { callee := .builtin .append, args := #[s, x], argTypes := #[t, t] })
    (base : Nat) (e : TypeId) (i : TypeInfo) (ht : P.underlying t = some (.slice e)) (hi : P.info? e = some i) (hz : i.zero = some (.int .u64 0)) (hsize : i.size = 1) (hby : i.bytes = 8)
    (v : Value) (n : Nat) (A : List Int) (hs : a.eval s = v) (hown : w.ownsRow base e 1 v n (u64s A))
    (vx : Value) (L : List Int) (hx : a.eval x = vx) (hu : Us w vx L) (h63 : n + L.length ≤ 1000000) (hbase : base ≤ w.heap.size)
    (h : ∀ v' w', w'.ownsRow base e 1 v' (n + L.length) (u64s (A ++ L)) → w.grownBy w' v.ownBlock → wpList P ops Q rest (a.put o.dst v') w') : wpList P ops Q (o :: rest) a w := by
  obtain ⟨ao, cap, rfl, q1, q2, q3, q4⟩ := hu
  cases ao with
  | none =>
    have h0 : L.length = 0 := by
      rcases Nat.eq_zero_or_pos L.length with h | h
      · exact h
      · obtain ⟨b, off, e, _⟩ := q4 (by omega); cases e
    have hL : L = [] := List.eq_nil_of_length_eq_zero h0
    subst hL
    refine wpList_wanted hgd fun _ hK => ?_
    unfold Oper.wp execOp
    simp only [ho, resolve, invoke, builtin, Sem.run_bind, Sem.run_pure, Result.andThen_ok, List.map_toArray, List.map_cons, List.map_nil, hs, hx, List.length_nil, run_append_own_nil w base t o.type e i ht hi 1 v n _ hown cap]
    exact hK _ _ (h v w (by simpa using hown) ⟨rfl, rfl, rfl, Nat.le_refl _, fun _ _ _ => rfl⟩)
  | some ad =>
    refine wpList_wanted hgd fun _ hK => wp_append_own w s x t ho base e i (.int .u64 0) 1 8 ht hi hz hsize hby rfl (by decide) v n _ hs hown ad L.length cap (u64s L) hx (by simp) ?_ ?_ (by unfold maxLen; omega) (by omega) hbase ?_
    · intro j u hj
      have hjl : j < L.length := by
        have := (List.getElem?_eq_some_iff.1 hj).1
        simpa using this
      obtain ⟨b, off, e, h1, h2⟩ := q4 (by omega)
      cases e
      have := h2 j hjl
      simp [hjl] at hj
      subst hj
      rw [Addr.add_lit, this]; simp [hjl]
    · intro u hu
      obtain ⟨_, _, rfl⟩ := List.mem_map.1 hu
      rfl
    · intro v' w' h1 h2 _
      refine hK _ _ (h v' w' ?_ h2)
      unfold u64s at h1 ⊢
      rw [List.map_append]; exact h1
end
set_option maxRecDepth 100000 in
set_option maxHeartbeats 1000000 in
/-- slices.Grow(nil, n): a new row of n places, none in use -/
theorem grow_nil (n : Nat) (w : World) (hn : n ≤ 100000) :
    Calls Tryz.prog 109 #[.slice none 0 0, .int .i64 n] w fun e w' => ∃ v, e = .returned v ∧ w'.ownsRow w.heap.size 23 1 v 0 [] ∧ Below w.heap.size w w' := by
  obtain ⟨i0, hi, hz0, hz1, hz2⟩ := info_parts Tryz.infoU64
  rcases Nat.eq_zero_or_pos n with h0 | h0
  · subst h0
    go_enter Tryz.func109, Tryz.ntmps109
    go_wp2
    go_ret
    exact ⟨_, rfl, World.ownsRow_nil _ _ _ _, Below.refl _ _⟩
  · have hrz : ∀ ty, (Builtin.append_ #[22, 3] ty #[.slice none 0 0, .int .i64 n]).run Tryz.prog w =
        .ok (.slice (some ⟨w.heap.size, 0, none⟩) n (grownCap w n 0 23)) (w.drew.alloc (.cells (#[] ++ Builtin.zeroCells (Value.int .u64 0).cells n ++ Builtin.zeroCells (Value.int .u64 0).cells (grownCap w n 0 23 - n)) 23)) := fun ty => by
      have h := Lib.run_append_grow_zeros w 22 3 ty 23 i0 (.int .u64 0) .i64 .i64 Tryz.underlying22 Tryz.underlying3 hi hz0 none 0 0 [] (run_firstCells_none w.drew _ 0 0 0) n h0 (by omega) (by omega) (by omega) (by rw [hz2]; omega) (by rw [hz2]; simp only [Nat.zero_add]; exact growslice_fits h0 (by omega))
      simpa using h
    have hge := grownCap_ge w n 0 23
    have hle := grownCap_le_maxLen w n 0 23 (by unfold maxLen; omega)
    generalize hG : grownCap w n 0 23 = G at *
    have hown : ((w.drew).alloc (.cells (#[] ++ Builtin.zeroCells (Value.int .u64 0).cells n ++ Builtin.zeroCells (Value.int .u64 0).cells (G - n)) 23)).ownsRow w.heap.size 23 1 (.slice (some ⟨w.heap.size, 0, none⟩) 0 G) 0 [] := by
      refine World.ownsRow_made w.drew _ G (Nat.le_refl _) hle ?_
      simp only [Array.size_append, size_zeroCells, List.size_toArray, List.length_nil]
      show 0 + n * 1 + (G - n) * 1 = G * 1
      omega
    have hbel : Below w.heap.size w ((w.drew).alloc (.cells (#[] ++ Builtin.zeroCells (Value.int .u64 0).cells n ++ Builtin.zeroCells (Value.int .u64 0).cells (G - n)) 23)) := ((Below.refl _ w).drew).alloc (Nat.le_refl _) _
    unfold maxLen at hle
    clear hG
    generalize Obj.cells (#[] ++ Builtin.zeroCells (Value.int .u64 0).cells n ++ Builtin.zeroCells (Value.int .u64 0).cells (G - n)) 23 = ob at *
    have HO : Hid ((w.alloc ob).drew.ownsRow w.heap.size 23 1 (.slice (some ⟨w.heap.size, 0, none⟩) 0 G) 0 []) := hown
    have HB : Hid (Below w.heap.size w (w.alloc ob).drew) := hbel
    clear hown hbel
    go_enter Tryz.func109, Tryz.ntmps109
    go_wp2_with (at_builtin; refine Lib.wpList_append_run _ rfl _ _ _ _ rfl _ _ rfl rfl _ _ (hrz _) ?_)
    go_ret
    exact ⟨_, rfl, HO.out, HB.out⟩
end Go.Proofs.YtmicgojojkkkhaaGreat
namespace Go.Proofs.YtmicgojojkkkhaaGreat
open Go.RowKit
theorem flat_take {Ls : List (List Int)} (k : Nat) (hk : k < Ls.length) : (Ls.take (k + 1)).flatten = (Ls.take k).flatten ++ Ls[k]?.getD [] := by
  rw [List.take_succ_eq_append_getElem hk, List.flatten_append]
  simp [hk]
theorem flat_take_le {Ls : List (List Int)} (k : Nat) : (Ls.take k).flatten.length ≤ Ls.flatten.length := by
  conv => rhs; rw [← List.take_append_drop k Ls, List.flatten_append, List.length_append]
  omega
set_option maxRecDepth 100000 in
set_option maxHeartbeats 1000000 in
theorem concat_any (vs : List Value) (Ls : List (List Int)) (B n : Nat) (w : World) (hk : Ls.length = n) (hB : B < w.heap.size) (hcell : ∀ j, j < n → w.cell? ⟨B, j, none⟩ = some (vs[j]?.getD undef))
    (hU : ∀ j, j < n → Us w (vs[j]?.getD undef) (Ls[j]?.getD [])) (hn10 : n ≤ 10) (htot : Ls.flatten.length ≤ 5000) :
    Calls Tryz.prog 93 #[.slice (some ⟨B, 0, none⟩) n n] w fun e w' => ∃ v, e = .returned v ∧ w'.ownsRow w.heap.size 23 1 v Ls.flatten.length (u64s Ls.flatten) ∧ Below w.heap.size w w' := by
  obtain ⟨i0, hi, hz0, hz1, hz2⟩ := info_parts Tryz.infoU64
  have HF : Hid (∀ k, k < n → (Ls.take (k + 1)).flatten = (Ls.take k).flatten ++ Ls[k]?.getD []) := fun k h => flat_take k (by omega)
  have HL : Hid (∀ k, (Ls.take k).flatten.length ≤ 5000) := fun k => Nat.le_trans (flat_take_le k) htot
  have HT : Hid (Ls.take n = Ls) := List.take_of_length_le (by omega)
  have HC : Hid (∀ j, j < n → w.cell? ⟨B, j, none⟩ = some (vs[j]?.getD undef)) := hcell
  have HU : Hid (∀ j, j < n → Us w (vs[j]?.getD undef) (Ls[j]?.getD [])) := hU
  clear hcell hU hk htot
  go_enter Tryz.func93, Tryz.ntmps93
  go_wp2
  go_loop [11, 3] (fun i t => ∃ k : Nat, k ≤ n ∧ i = .int .i64 k ∧ t = .int .i64 ((Ls.take k).flatten.length : Nat)) (fun i _ => n - (intOf i).toNat)
  case atStart => exact ⟨0, by omega, rfl, by simp⟩
  case round =>
    obtain ⟨k, hk, rfl, rfl⟩ := hrel
    by_cases hlt : k < n
    · have hc := HC.out k hlt
      obtain ⟨ao, cap, hv, hq1, hq2, hq3, hq4⟩ := HU.out k hlt
      rw [hv] at hc
      have hf := congrArg List.length (HF.out k hlt)
      rw [List.length_append] at hf
      have hl0 := HL.out k
      have hl1 := HL.out (k + 1)
      generalize (Ls.take k).flatten.length = x at *
      generalize (Ls[k]?.getD []).length = y at *
      have HX : Hid ((Ls.take (k + 1)).flatten.length = x + y) := hf
      rw [hf] at hl1
      clear hf hq4 hq3 hv HF HL HT HC HU
      go_wp2
      go_round
      case rel => exact ⟨k + 1, by omega, by go_num, by rw [HX.out]; go_num⟩
      case measure => simp [intOf]; omega
    · obtain rfl : k = n := by omega
      have hl0 := HL.out k
      generalize (Ls.take k).flatten.length = x at *
      go_wp2_with (first | (go_at_call 109; refine (grow_nil _ _ (by omega)).mono ?_; rintro e w1 ⟨v1, rfl, hown1, hb1⟩))
      go_loopw [27, 6] (fun i t wr => ∃ j : Nat, j ≤ k ∧ i = .int .i64 j ∧ wr.ownsRow w.heap.size 23 1 t (Ls.take j).flatten.length (u64s (Ls.take j).flatten) ∧ Below w.heap.size w wr) (fun i _ _ => k - (intOf i).toNat)
      case atStart => exact ⟨0, by omega, rfl, by simpa using hown1, hb1⟩
      case round =>
        clear hown1 hb1
        obtain ⟨j, hj, rfl, hown, hb⟩ := hrel
        by_cases hlt : j < k
        · have hc : wr.cell? ⟨B, j, none⟩ = some (vs[j]?.getD undef) := (hb.cell (p := ⟨B, j, none⟩) hB).trans (HC.out j hlt)
          have hu := (HU.out j hlt).below hb
          have hff := HF.out j hlt
          have hf := congrArg List.length hff
          rw [List.length_append] at hf
          have hl1 := HL.out (j + 1)
          rw [hf] at hl1
          have HX2 : Hid ((Ls.take (j + 1)).flatten.length = (Ls.take j).flatten.length + (Ls[j]?.getD []).length) := hf
          have HY : Hid ((Ls.take (j + 1)).flatten = (Ls.take j).flatten ++ Ls[j]?.getD []) := hff
          generalize (Ls.take j).flatten = A at *
          generalize Ls[j]?.getD [] = L at *
          generalize vs[j]?.getD undef = vj at *
          clear hf hff HF HL HT HC HU
          have HO := hid hown
          have HU := hid hu
          obtain ⟨ao, cap, rfl, hq1, hq2, hq3, hq4⟩ := hu
          clear hq4 hq3 hown
          go_wp2_with (at_builtin; refine wpList_append_us rfl _ _ 22 rfl w.heap.size 23 i0 Tryz.underlying22 hi hz0 hz1 hz2 _ _ A rfl HO.out _ L rfl HU.out (by omega) hb.size ?_; intro v' w2 hown2 hgrow2)
          have hb2 : Below w.heap.size w w2 := hb.grown hgrow2 hb.size (fun q hq => (HO.out.lt q hq).1)
          go_wp2
          go_roundw
          case rel => exact ⟨j + 1, by omega, by go_num, by rw [HX2.out, HY.out]; exact hown2, hb2⟩
          case measure => simp [intOf]; omega
        · obtain rfl : j = k := by omega
          rw [HT.out] at hown
          have HO := hid hown
          clear hown HF HL HC HU
          go_wp2
          go_ret
          exact ⟨_, rfl, HO.out, hb⟩
end Go.Proofs.YtmicgojojkkkhaaGreat
namespace Go.Proofs.YtmicgojojkkkhaaGreat
open Go.RowKit
theorem own_back {w w' : World} {e : TypeId} {v : Value} {n : Nat} {xs : List Value} (hb : Below w.heap.size w w') {w2 : World} (h : w2.ownsRow w'.heap.size e 1 v n xs) : w2.ownsRow w.heap.size e 1 v n xs := own_lower h hb.size
theorem cell_at (w : World) (xs : Array Value) (e : TypeId) (j : Nat) : (w.alloc (.cells xs e)).cell? ⟨w.heap.size, j, none⟩ = xs[j]? := by
  rw [cell_of_row (w.alloc (.cells xs e)) w.heap.size j xs e (0, 0) (heap_alloc_new w _)]
set_option maxRecDepth 100000 in
theorem concat3 (v1 v3 : Value) (A C : List Int) (i : Int) (w : World) (hA : Us w v1 A) (hC : Us w v3 C) (h0 : 0 ≤ i) (h1 : i ≤ 18446744073709551615) (hl : A.length + C.length ≤ 2000) :
    Calls Tryz.prog 93 #[.slice (some ⟨w.heap.size + 1, 0, none⟩) 3 3] ((w.alloc (.cells #[.int .u64 i] 23)).alloc (.cells #[v1, .slice (some ⟨w.heap.size, 0, none⟩) 1 1, v3] 22)).drew fun e w' =>
      ∃ v, e = .returned v ∧ w'.ownsRow w.heap.size 23 1 v (A ++ ([i] ++ C)).length (u64s (A ++ ([i] ++ C))) ∧ Below w.heap.size w w' := by
  have hb : Below w.heap.size w ((w.alloc (.cells #[.int .u64 i] 23)).alloc (.cells #[v1, .slice (some ⟨w.heap.size, 0, none⟩) 1 1, v3] 22)).drew :=
    (((Below.refl _ w).alloc (Nat.le_refl _) _).alloc (by simp) _).drew
  have hflat : [A, [i], C].flatten = A ++ ([i] ++ C) := by simp
  have hm : Us (w.alloc (.cells #[.int .u64 i] 23)) (.slice (some ⟨w.heap.size, 0, none⟩) 1 1) [i] := by
    refine ⟨_, _, rfl, by simp, by unfold maxLen; omega, by simp; omega, fun _ => ⟨w.heap.size, 0, rfl, by simp, fun j hj => ?_⟩⟩
    match j, hj with
    | 0, _ => rw [Nat.zero_add, cell_at]; rfl
  have hM := hm.alloc (.cells #[v1, .slice (some ⟨w.heap.size, 0, none⟩) 1 1, v3] 22)
  have key := concat_any [v1, .slice (some ⟨w.heap.size, 0, none⟩) 1 1, v3] [A, [i], C] (w.heap.size + 1) 3 ((w.alloc (.cells #[.int .u64 i] 23)).alloc (.cells #[v1, .slice (some ⟨w.heap.size, 0, none⟩) 1 1, v3] 22)).drew rfl (by simp) ?_ ?_ (by omega) (by rw [hflat]; simp; omega)
  · refine key.mono ?_
    rw [hflat]
    rintro e w' ⟨v, h1, h2, h3⟩
    exact ⟨v, h1, own_back hb h2, below_trans hb h3⟩
  · intro j hj
    have hc := cell_at (w.alloc (.cells #[.int .u64 i] 23)) #[v1, .slice (some ⟨w.heap.size, 0, none⟩) 1 1, v3] 22 j
    rw [World.size_alloc] at hc
    show World.cell? ((w.alloc _).alloc _) _ = _
    rw [hc]
    match j, hj with
    | 0, _ => rfl
    | 1, _ => rfl
    | 2, _ => rfl
  · intro j hj
    match j, hj with
    | 0, _ => exact hA.below hb
    | 1, _ => exact hM.drew
    | 2, _ => exact hC.below hb
theorem M.withE_zero {h : Int} {L : List Int} {i : Int} (hE : M.withE h L i = 0) : M.fndE h L i = 0 ∧ M.has L i = false ∧ M.hasV h L i = false ∧ M.findN h L i = (M.pos L i : Nat) ∧ M.setB h L = true ∧ L.length < 1024 ∧ M.isB h i = true := by
  unfold M.withE at hE
  by_cases hf : M.fndE h L i = 0
  · rw [if_pos hf] at hE
    cases hh : M.has L i
    · rw [hh] at hE
      have hs : M.setB h L = true ∧ M.isB h i = true := by
        have := hf
        unfold M.fndE at this
        cases hx : (M.setB h L && M.isB h i)
        · rw [hx] at this; simp at this
        · simpa using hx
      have hl := (M.set_of hs.1).2.2.1
      refine ⟨hf, rfl, by unfold M.hasV; rw [hh]; simp, by unfold M.findN; rw [if_pos hf], hs.1, ?_, hs.2⟩
      by_cases h6 : L.length = 1024
      · simp [h6] at hE
      · omega
    · rw [hh] at hE; simp at hE
  · rw [if_neg hf] at hE; simp at hE
end Go.Proofs.YtmicgojojkkkhaaGreat
namespace Go.Proofs.YtmicgojojkkkhaaGreat
open Go.RowKit
set_option maxRecDepth 100000 in
theorem concat2 (v1 v2 : Value) (A C : List Int) (w : World) (hA : Us w v1 A) (hC : Us w v2 C) (hl : A.length + C.length ≤ 2000) :
    Calls Tryz.prog 93 #[.slice (some ⟨w.heap.size, 0, none⟩) 2 2] (w.alloc (.cells #[v1, v2] 22)).drew fun e w' =>
      ∃ v, e = .returned v ∧ w'.ownsRow w.heap.size 23 1 v (A ++ C).length (u64s (A ++ C)) ∧ Below w.heap.size w w' := by
  have hb : Below w.heap.size w (w.alloc (.cells #[v1, v2] 22)).drew := ((Below.refl _ w).alloc (Nat.le_refl _) _).drew
  have hflat : [A, C].flatten = A ++ C := by simp
  have key := concat_any [v1, v2] [A, C] w.heap.size 2 (w.alloc (.cells #[v1, v2] 22)).drew rfl (by simp) ?_ ?_ (by omega) (by rw [hflat]; simp; omega)
  · refine key.mono ?_
    rw [hflat]
    rintro e w' ⟨v, h1, h2, h3⟩
    exact ⟨v, h1, own_back hb h2, below_trans hb h3⟩
  · intro j hj
    have hc := cell_at w #[v1, v2] 22 j
    show World.cell? (w.alloc _) _ = _
    rw [hc]
    match j, hj with
    | 0, _ => rfl
    | 1, _ => rfl
  · intro j hj
    match j, hj with
    | 0, _ => exact hA.below hb
    | 1, _ => exact hC.below hb
theorem M.outE_zero {h : Int} {L : List Int} {i : Int} (hE : M.outE h L i = 0) : M.fndE h L i = 0 ∧ M.has L i = true ∧ M.hasV h L i = true ∧ M.findN h L i = (M.pos L i : Nat) ∧ M.setB h L = true ∧ M.isB h i = true := by
  unfold M.outE at hE
  by_cases hf : M.fndE h L i = 0
  · rw [if_pos hf] at hE
    cases hh : M.has L i
    · rw [hh] at hE; simp at hE
    · have hs : M.setB h L = true ∧ M.isB h i = true := by
        have := hf
        unfold M.fndE at this
        cases hx : (M.setB h L && M.isB h i)
        · rw [hx] at this; simp at this
        · simpa using hx
      exact ⟨hf, rfl, by unfold M.hasV; rw [hh, hf]; simp, by unfold M.findN; rw [if_pos hf], hs.1, hs.2⟩
  · rw [if_neg hf] at hE; simp at hE
end Go.Proofs.YtmicgojojkkkhaaGreat
namespace Go.Proofs.YtmicgojojkkkhaaGreat
open Go.RowKit
set_option maxRecDepth 100000 in
theorem concat1 (v1 : Value) (A : List Int) (w : World) (B : Nat) (hB : w.heap.size = B) (hA : Us w v1 A) (hl : A.length ≤ 2000) :
    Calls Tryz.prog 93 #[.slice (some ⟨B, 0, none⟩) 1 1] (w.alloc (.cells #[v1] 22)) fun e w' =>
      ∃ v, e = .returned v ∧ w'.ownsRow w.heap.size 23 1 v A.length (u64s A) ∧ Below w.heap.size w w' := by
  subst hB
  have hb : Below w.heap.size w (w.alloc (.cells #[v1] 22)) := ((Below.refl _ w).alloc (Nat.le_refl _) _)
  have hflat : [A].flatten = A := by simp
  have key := concat_any [v1] [A] w.heap.size 1 (w.alloc (.cells #[v1] 22)) rfl (by simp) ?_ ?_ (by omega) (by rw [hflat]; omega)
  · refine key.mono ?_
    rw [hflat]
    rintro e w' ⟨v, h1, h2, h3⟩
    exact ⟨v, h1, own_back hb h2, below_trans hb h3⟩
  · intro j hj
    rw [cell_at w #[v1] 22 j]
    match j, hj with
    | 0, _ => rfl
  · intro j hj
    match j, hj with
    | 0, _ => exact hA.below hb
theorem M.belL_part {L : List Int} {lo hi : Int} (h : L.Pairwise (· < ·)) (hl : lo ≤ hi + 1) : M.pos L lo ≤ M.pos L (hi + 1) ∧ (L.drop (M.pos L lo)).take (M.pos L (hi + 1) - M.pos L lo) = M.belL lo hi L := by
  have hle : M.pos L lo ≤ M.pos L (hi + 1) := by
    unfold M.pos
    rw [← List.countP_eq_length_filter, ← List.countP_eq_length_filter]
    refine List.countP_mono_left fun x _ hx => ?_
    simp at hx ⊢; omega
  refine ⟨hle, ?_⟩
  have h1 := M.take_pos (i := hi + 1) h
  have h2 : (L.take (M.pos L (hi + 1))).drop (M.pos L lo) = (L.drop (M.pos L lo)).take (M.pos L (hi + 1) - M.pos L lo) := by rw [List.drop_take]
  rw [← h2, h1]
  have h3 : (L.filter (fun x => decide (x < hi + 1))).take (M.pos L lo) = L.filter (fun x => decide (x < lo)) := by
    rw [← h1, List.take_take, Nat.min_eq_left hle, M.take_pos h]
  have h4 := M.partsL (L := L.filter (fun x => decide (x < hi + 1))) lo (h.filter _)
  have h5 : (L.filter (fun x => decide (x < hi + 1))).filter (fun x => decide (x < lo)) = L.filter (fun x => decide (x < lo)) := by
    rw [List.filter_filter]
    refine List.filter_congr fun x _ => ?_
    by_cases hx : x < lo
    · simp [hx]; omega
    · simp [hx]
  rw [h5] at h4
  have h6 : (L.filter (fun x => decide (x < hi + 1))).drop (M.pos L lo) = (L.filter (fun x => decide (x < hi + 1))).filter (fun x => decide (lo ≤ x)) := by
    conv => lhs; rw [← h4]
    unfold M.pos
    exact List.drop_left
  rw [h6, List.filter_filter]
  unfold M.belL
  refine List.filter_congr fun x _ => ?_
  congr 1
  by_cases hx : x ≤ hi
  · simp [hx]; omega
  · simp [hx]; omega
set_option maxRecDepth 100000 in
set_option maxHeartbeats 1000000 in
theorem bel_yes (h : Int) (L : List Int) (v : Value) (n : Int) (w : World) (hu : Us w v L) (h0 : 0 ≤ n) (h1 : n ≤ 18446744073709551615) (hE : M.belE h L n = 0) :
    Calls Tryz.prog 73 #[.int .i64 h, v, .int .u64 n] w fun e w' => ∃ v', e = .returned (.tuple #[v', .int .i64 0]) ∧ w'.ownsRow w.heap.size 23 1 v' (M.belL (M.low h n) (M.high h n) L).length (u64s (M.belL (M.low h n) (M.high h n) L)) ∧ Below w.heap.size w w' := by
  have hs : M.setB h L = true ∧ M.okB h n = true := by
    unfold M.belE at hE
    cases hx : (M.setB h L && M.okB h n)
    · rw [hx] at hE; simp at hE
    · simpa using hx
  obtain ⟨hs, hk⟩ := hs
  have e1 := M.setE_yes hs
  have e2 := M.eChk_ok hk
  have e3 := M.lowV_ok hk
  have e4 := M.highV_ok hk
  obtain ⟨k1, k2, k3⟩ := M.low_bd hk
  have k4 := M.p2_32 (M.ok_of hk).2.1
  obtain ⟨_, _, hlen, _, hL, _⟩ := M.set_of hs
  obtain ⟨hle, hP⟩ := M.belL_part (lo := M.low h n) (hi := M.high h n) hL (by omega)
  have hto := M.pos_le L (M.high h n + 1)
  generalize M.low h n = lo at *
  generalize M.high h n = hi at *
  clear hE hs hk
  have hu0 := hu
  obtain ⟨ao, cap, rfl, hq1, hq2, hq3, hq4⟩ := hu0
  have HP := hid hP
  clear hP
  generalize hpp : M.pos L lo = p at *
  generalize hqq : M.pos L (hi + 1) = q at *
  have hpl : ((L.drop p).take (q - p)).length ≤ 2000 := by rw [List.length_take, List.length_drop]; omega
  generalize hn : L.length = m at *
  by_cases c0 : cap = 0
  · subst c0
    obtain rfl : m = 0 := by omega
    obtain rfl : q = 0 := by omega
    obtain rfl : p = 0 := by omega
    have hL0 : L = [] := List.eq_nil_of_length_eq_zero hn
    have HA : Hid (Us w (.slice ao 0 0) ((L.drop 0).take (0 - 0))) := by rw [hL0]; exact Us.empty
    clear hL0 hq3 hq4
    cases ao with
    | none =>
      go_enter Tryz.func73, Tryz.ntmps73
      go_wp2_with (first | (go_at_call 68; refine (setCheck_any _ L _ _ hu).mono ?_; rintro e w1 ⟨rfl, hb1⟩) | (go_at_call 55; refine (leaves_any _ _ _ (by omega) (by omega)).mono ?_; rintro e w2 ⟨rfl, hb2⟩) | (go_at_call 92; refine (search_any L _ _ _ ((hu.below (below_trans hb1 hb2)).alloc _) hL (by omega)).mono ?_; rintro e w' ⟨rfl, hw⟩; subst w') | (go_at_call 93; refine (concat1 _ _ (w2.alloc _) _ (by simp) ((HA.out.below (below_trans hb1 hb2)).alloc _) (by omega)).mono ?_; rintro e w3 ⟨v, rfl, hown, hb3⟩))
      (rw [HP.out] at hown; have HO := hid hown; have hb4 := (below_trans hb1 hb2).alloc (below_trans hb1 hb2).size (.cells #[.int .u64 lo, .int .u64 hi] 63); clear hown; go_wp2; go_ret2; exact ⟨_, rfl, own_back hb4 HO.out, below_trans hb4 hb3⟩)
    | some a =>
      go_enter Tryz.func73, Tryz.ntmps73
      go_wp2_with (first | (go_at_call 68; refine (setCheck_any _ L _ _ hu).mono ?_; rintro e w1 ⟨rfl, hb1⟩) | (go_at_call 55; refine (leaves_any _ _ _ (by omega) (by omega)).mono ?_; rintro e w2 ⟨rfl, hb2⟩) | (go_at_call 92; refine (search_any L _ _ _ ((hu.below (below_trans hb1 hb2)).alloc _) hL (by omega)).mono ?_; rintro e w' ⟨rfl, hw⟩; subst w') | (go_at_call 93; refine (concat1 _ _ (w2.alloc _) _ (by simp) ((HA.out.below (below_trans hb1 hb2)).alloc _) (by omega)).mono ?_; rintro e w3 ⟨v, rfl, hown, hb3⟩))
      (rw [HP.out] at hown; have HO := hid hown; have hb4 := (below_trans hb1 hb2).alloc (below_trans hb1 hb2).size (.cells #[.int .u64 lo, .int .u64 hi] 63); clear hown; go_wp2; go_ret2; exact ⟨_, rfl, own_back hb4 HO.out, below_trans hb4 hb3⟩)
  · obtain ⟨b, off, rfl, hq5, hq6⟩ := hq4 (by omega)
    have c2 : p ≤ cap := by omega
    have c4 : q ≤ cap := by omega
    by_cases c1 : cap = p
    · have HA : Hid (Us w (.slice (some ⟨b, off, none⟩) 0 0) ((L.drop p).take (q - p))) := by
        rw [show q - p = 0 by omega, List.take_zero]; exact Us.empty
      have c3 : q = p := by omega
      clear hq3 hq4 hq6
      subst c1
      subst c3
      go_enter Tryz.func73, Tryz.ntmps73
      go_wp2_with (first | (go_at_call 68; refine (setCheck_any _ L _ _ hu).mono ?_; rintro e w1 ⟨rfl, hb1⟩) | (go_at_call 55; refine (leaves_any _ _ _ (by omega) (by omega)).mono ?_; rintro e w2 ⟨rfl, hb2⟩) | (go_at_call 92; refine (search_any L _ _ _ ((hu.below (below_trans hb1 hb2)).alloc _) hL (by omega)).mono ?_; rintro e w' ⟨rfl, hw⟩; subst w') | (go_at_call 93; refine (concat1 _ _ (w2.alloc _) _ (by simp) ((HA.out.below (below_trans hb1 hb2)).alloc _) (by omega)).mono ?_; rintro e w3 ⟨v, rfl, hown, hb3⟩))
      (rw [HP.out] at hown; have HO := hid hown; have hb4 := (below_trans hb1 hb2).alloc (below_trans hb1 hb2).size (.cells #[.int .u64 lo, .int .u64 hi] 63); clear hown; go_wp2; go_ret2; exact ⟨_, rfl, own_back hb4 HO.out, below_trans hb4 hb3⟩)
    · have HA : Hid (Us w (.slice (some ⟨b, off + p, none⟩) (q - p) (cap - p)) ((L.drop p).take (q - p))) := Us.part hu p q hle hto c1
      clear hq3 hq4 hq6
      go_enter Tryz.func73, Tryz.ntmps73
      go_wp2_with (first | (go_at_call 68; refine (setCheck_any _ L _ _ hu).mono ?_; rintro e w1 ⟨rfl, hb1⟩) | (go_at_call 55; refine (leaves_any _ _ _ (by omega) (by omega)).mono ?_; rintro e w2 ⟨rfl, hb2⟩) | (go_at_call 92; refine (search_any L _ _ _ ((hu.below (below_trans hb1 hb2)).alloc _) hL (by omega)).mono ?_; rintro e w' ⟨rfl, hw⟩; subst w') | (go_at_call 93; refine (concat1 _ _ (w2.alloc _) _ (by simp) ((HA.out.below (below_trans hb1 hb2)).alloc _) (by omega)).mono ?_; rintro e w3 ⟨v, rfl, hown, hb3⟩))
      (rw [HP.out] at hown; have HO := hid hown; have hb4 := (below_trans hb1 hb2).alloc (below_trans hb1 hb2).size (.cells #[.int .u64 lo, .int .u64 hi] 63); clear hown; go_wp2; go_ret2; exact ⟨_, rfl, own_back hb4 HO.out, below_trans hb4 hb3⟩)
set_option maxRecDepth 100000 in
set_option maxHeartbeats 1000000 in
theorem bel_no (h : Int) (L : List Int) (v : Value) (n : Int) (w : World) (hu : Us w v L) (h0 : 0 ≤ n) (h1 : n ≤ 18446744073709551615) (hE : M.belE h L n ≠ 0) :
    Calls Tryz.prog 73 #[.int .i64 h, v, .int .u64 n] w fun e w' => e = .returned (.tuple #[.slice none 0 0, .int .i64 1]) ∧ Below w.heap.size w w' := by
  cases hs : M.setB h L
  · have e1 := M.setE_no hs
    clear hE hs
    go_enter Tryz.func73, Tryz.ntmps73
    go_wp2_with (first | (go_at_call 68; refine (setCheck_any _ L _ _ hu).mono ?_; rintro e w1 ⟨rfl, hb1⟩))
    go_ret2
    exact ⟨rfl, hb1⟩
  · have e1 := M.setE_yes hs
    have e2 : M.eChk h n = 1 := by
      refine M.eChk_nok fun hk => hE ?_
      unfold M.belE; rw [hs, hk]; rfl
    clear hE hs
    go_enter Tryz.func73, Tryz.ntmps73
    go_wp2_with (first | (go_at_call 68; refine (setCheck_any _ L _ _ hu).mono ?_; rintro e w1 ⟨rfl, hb1⟩) | (go_at_call 55; refine (leaves_any _ _ _ (by omega) (by omega)).mono ?_; rintro e w2 ⟨rfl, hb2⟩))
    go_ret2
    exact ⟨rfl, (below_trans hb1 hb2).alloc (below_trans hb1 hb2).size _⟩
end Go.Proofs.YtmicgojojkkkhaaGreat
