/-
  What the library's Grow, Concat, Clone and Equal of slices of terms come to. Conditions: each theorem's own premises.
-/
import Derived.Test.YthmiekinjfaflaaGreatZU2
import Derived.Lib.AppendZerosOnto
namespace Go.Proofs.YthmiekinjfaflaaGreat
open Go.RowKit
set_option maxRecDepth 100000 in
set_option maxHeartbeats 1000000 in
/-- slices.Grow(nil, n): a new row of n places, none in use -/
theorem growT_nil (n : Nat) (w : World) (hn : n ≤ 100000) :
    Calls Tryz.prog 107 #[.slice none 0 0, .int .i64 n] w fun e w' => ∃ v, e = .returned v ∧ w'.ownsRow w.heap.size 39 3 v 0 [] ∧ Below w.heap.size w w' := by
  obtain ⟨i0, hi, hz0, hz1, hz2⟩ := info_partsq elTm.info
  have hz0 : i0.zero = some (.agg #[.int .i64 0, .int .i64 0, .int .i64 0]) := hz0
  have hz1 : i0.size = 3 := hz1
  have hz2 : i0.bytes = 24 := hz2
  have hi : Tryz.prog.info? 39 = some i0 := hi
  rcases Nat.eq_zero_or_pos n with h0 | h0
  · subst h0
    go_enter Tryz.func107, Tryz.ntmps107
    go_wp2
    go_ret
    exact ⟨_, rfl, World.ownsRow_nil _ _ _ _, Below.refl _ _⟩
  · have hrz : ∀ ty, (Builtin.append_ #[22, 3] ty #[.slice none 0 0, .int .i64 n]).run Tryz.prog w =
        .ok (.slice (some ⟨w.heap.size, 0, none⟩) n (grownCap w n 0 39)) (w.drew.alloc (.cells (#[] ++ Builtin.zeroCells ((.agg #[.int .i64 0, .int .i64 0, .int .i64 0]) : Value).cells n ++ Builtin.zeroCells ((.agg #[.int .i64 0, .int .i64 0, .int .i64 0]) : Value).cells (grownCap w n 0 39 - n)) 39)) := fun ty => by
      have h := Lib.run_append_grow_zeros w 22 3 ty 39 i0 (.agg #[.int .i64 0, .int .i64 0, .int .i64 0]) .i64 .i64 Tryz.underlying22 Tryz.underlying3 hi hz0 none 0 0 [] (run_firstCells_none w.drew _ 0 0 0) n h0 (by omega) (by omega) (by omega) (by rw [hz2]; omega) (by rw [hz2]; simp only [Nat.zero_add]; exact growslice_fits h0 (by omega))
      simpa using h
    have hge := grownCap_ge w n 0 39
    have hle := grownCap_le_maxLen w n 0 39 (by unfold maxLen; omega)
    generalize hG : grownCap w n 0 39 = G at *
    have hown : ((w.drew).alloc (.cells (#[] ++ Builtin.zeroCells ((.agg #[.int .i64 0, .int .i64 0, .int .i64 0]) : Value).cells n ++ Builtin.zeroCells ((.agg #[.int .i64 0, .int .i64 0, .int .i64 0]) : Value).cells (G - n)) 39)).ownsRow w.heap.size 39 3 (.slice (some ⟨w.heap.size, 0, none⟩) 0 G) 0 [] := by
      refine World.ownsRow_made w.drew _ G (Nat.le_refl _) hle ?_
      simp only [Array.size_append, size_zeroCells, List.size_toArray, List.length_nil]
      show 0 + n * 3 + (G - n) * 3 = G * 3
      omega
    have hbel : Below w.heap.size w ((w.drew).alloc (.cells (#[] ++ Builtin.zeroCells ((.agg #[.int .i64 0, .int .i64 0, .int .i64 0]) : Value).cells n ++ Builtin.zeroCells ((.agg #[.int .i64 0, .int .i64 0, .int .i64 0]) : Value).cells (G - n)) 39)) := ((Below.refl _ w).drew).alloc (Nat.le_refl _) _
    unfold maxLen at hle
    clear hG
    generalize Obj.cells (#[] ++ Builtin.zeroCells ((.agg #[.int .i64 0, .int .i64 0, .int .i64 0]) : Value).cells n ++ Builtin.zeroCells ((.agg #[.int .i64 0, .int .i64 0, .int .i64 0]) : Value).cells (G - n)) 39 = ob at *
    have HO : Hid ((w.alloc ob).drew.ownsRow w.heap.size 39 3 (.slice (some ⟨w.heap.size, 0, none⟩) 0 G) 0 []) := hown
    have HB : Hid (Below w.heap.size w (w.alloc ob).drew) := hbel
    clear hown hbel
    go_enter Tryz.func107, Tryz.ntmps107
    go_wp2_with (at_builtin; refine Lib.wpList_append_run _ rfl _ _ _ _ rfl _ _ rfl rfl _ _ (hrz _) ?_)
    go_ret
    exact ⟨_, rfl, HO.out, HB.out⟩
theorem flatT_take {Ls : List (List M.Tm)} (k : Nat) (hk : k < Ls.length) : (Ls.take (k + 1)).flatten = (Ls.take k).flatten ++ Ls[k]?.getD [] := by
  rw [List.take_succ_eq_append_getElem hk, List.flatten_append]
  simp [hk]
theorem flatT_take_le {Ls : List (List M.Tm)} (k : Nat) : (Ls.take k).flatten.length ≤ Ls.flatten.length := by
  conv => rhs; rw [← List.take_append_drop k Ls, List.flatten_append, List.length_append]
  omega
set_option maxRecDepth 100000 in
set_option maxHeartbeats 1000000 in
theorem concatT_any (vs : List Value) (Ls : List (List M.Tm)) (B n : Nat) (w : World) (hk : Ls.length = n) (hB : B < w.heap.size) (hcell : ∀ j, j < n → w.cell? ⟨B, j, none⟩ = some (vs[j]?.getD undef))
    (hU : ∀ j, j < n → Ts w (vs[j]?.getD undef) (Ls[j]?.getD [])) (hn10 : n ≤ 10) (htot : Ls.flatten.length ≤ 70000) :
    Calls Tryz.prog 104 #[.slice (some ⟨B, 0, none⟩) n n] w fun e w' => ∃ v, e = .returned v ∧ w'.ownsRow w.heap.size 39 3 v Ls.flatten.length (elTm.cells Ls.flatten) ∧ Below w.heap.size w w' := by
  have HF := hidq (show ∀ k, k < n → (Ls.take (k + 1)).flatten = (Ls.take k).flatten ++ Ls[k]?.getD [] from fun k h => flatT_take k (by omega))
  have HL := hidq (show ∀ k, (Ls.take k).flatten.length ≤ 70000 from fun k => Nat.le_trans (flatT_take_le k) htot)
  have HT := hidq (show Ls.take n = Ls from List.take_of_length_le (by omega))
  have HC := hidq hcell
  have HU := hidq hU
  clear hcell hU hk htot
  go_enter Tryz.func104, Tryz.ntmps104
  go_wp2
  go_loop [11, 3] (fun i t => ∃ k : Nat, k ≤ n ∧ i = .int .i64 k ∧ t = .int .i64 ((Ls.take k).flatten.length : Nat)) (fun i _ => n - (intOf i).toNat)
  case atStart => exact ⟨0, by omega, rfl, by simp⟩
  case round =>
    obtain ⟨k, hk, rfl, rfl⟩ := hrel
    by_cases hlt : k < n
    · have hc := HC.out k hlt
      obtain ⟨ao, cap, hv, hq1, hq2, hq3, hq4⟩ := HU.out k hlt
      rw [hv] at hc
      have hf := congrArg List.length (HF.out k hlt)
      rw [List.length_append] at hf
      have hl0 := HL.out k
      have hl1 := HL.out (k + 1)
      generalize (Ls.take k).flatten.length = x at *
      generalize (Ls[k]?.getD []).length = y at *
      have HX : Hid ((Ls.take (k + 1)).flatten.length = x + y) := hf
      rw [hf] at hl1
      clear hf hq4 hq3 hv HF HL HT HC HU
      go_wp2
      go_round
      case rel => exact ⟨k + 1, by omega, by go_num, by rw [HX.out]; go_num⟩
      case measure => simp [intOf]; omega
    · obtain rfl : k = n := by omega
      have hl0 := HL.out k
      generalize (Ls.take k).flatten.length = x at *
      go_wp2_with (first | (go_at_call 107; refine (growT_nil _ _ (by omega)).mono ?_; rintro e w1 ⟨v1, rfl, hown1, hb1⟩))
      go_loopw [27, 6] (fun i t wr => ∃ j : Nat, j ≤ k ∧ i = .int .i64 j ∧ wr.ownsRow w.heap.size 39 3 t (Ls.take j).flatten.length (elTm.cells (Ls.take j).flatten) ∧ Below w.heap.size w wr) (fun i _ _ => k - (intOf i).toNat)
      case atStart => exact ⟨0, by omega, rfl, by simp only [List.take_zero, List.flatten_nil]; exact hown1, hb1⟩
      case round =>
        clear hown1 hb1
        obtain ⟨j, hj, rfl, hown, hb⟩ := hrel
        by_cases hlt : j < k
        · have hc : wr.cell? ⟨B, j, none⟩ = some (vs[j]?.getD undef) := (hb.cell (p := ⟨B, j, none⟩) hB).trans (HC.out j hlt)
          have hu := (HU.out j hlt).below hb
          have hff := HF.out j hlt
          have hf := congrArg List.length hff
          rw [List.length_append] at hf
          have hl1 := HL.out (j + 1)
          rw [hf] at hl1
          have HX2 := hidq hf
          have HY := hidq hff
          generalize (Ls.take j).flatten = A at *
          generalize Ls[j]?.getD [] = L at *
          generalize vs[j]?.getD undef = vj at *
          clear hf hff HF HL HT HC HU
          have HO := hidq hown
          have HU := hidq hu
          obtain ⟨ao, cap, rfl, hq1, hq2, hq3, hq4⟩ := hu
          clear hq4 hq3 hown
          go_wp2_with (at_builtin; refine wpList_append_sl (E := elTm) rfl _ _ rfl w.heap.size _ _ A rfl HO.out _ L rfl HU.out (by omega) hb.size ?_; intro v' w2 hown2 hgrow2)
          have hb2 : Below w.heap.size w w2 := hb.grown hgrow2 hb.size (fun q hq => (HO.out.lt q hq).1)
          have HO2 := hidq hown2
          clear hown2 hgrow2
          go_wp2
          go_roundw
          case rel => exact ⟨j + 1, by omega, by go_num, by rw [HX2.out, HY.out]; exact HO2.out, hb2⟩
          case measure => simp [intOf]; omega
        · obtain rfl : j = k := by omega
          rw [HT.out] at hown
          have HO := hidq hown
          clear hown HF HL HC HU
          go_wp2
          go_ret
          exact ⟨_, rfl, HO.out, hb⟩
end Go.Proofs.YthmiekinjfaflaaGreat
namespace Go.Proofs.YthmiekinjfaflaaGreat
open Go.RowKit
set_option maxRecDepth 100000 in
set_option maxHeartbeats 1000000 in
theorem cloneT_any (A : List M.Tm) (hl : A.length ≤ 65536) (v : Value) (w : World) (u : Ts w v A) :
    Calls Tryz.prog 18 #[v] w fun e w' => ∃ v', e = .returned v' ∧ w'.ownsRow w.heap.size 39 3 v' A.length (elTm.cells A) ∧ Below w.heap.size w w' := by
  have hnil : ∀ (w : World) (a : Option Addr) (n c n' c' : Nat), (binOp .eql 22 (.slice a n c) (.slice none n' c')).run Tryz.prog w = .ok (.bool a.isNone) w := fun w a n c n' c' => Lib.run_eql_slice_nil w _ _ a n c n' c' Tryz.underlying22
  have U := hidq u
  obtain ⟨ao, cap, rfl, q1, q2, q4⟩ := u.form
  clear u
  cases ao with
  | none =>
    have h0 : A.length = 0 := by
      rcases Nat.eq_zero_or_pos A.length with h | h
      · exact h
      · obtain ⟨b, off, e⟩ := q4 (by omega); cases e
    obtain rfl : A = [] := List.eq_nil_of_length_eq_zero h0
    clear q4
    go_enter Tryz.func18, Tryz.ntmps18
    go_wp2
    go_ret
    exact ⟨_, rfl, World.ownsRow_nil _ _ _ _, Below.refl _ _⟩
  | some ad =>
    clear q4
    have HB := hidq (below_one (o := .cells #[] 39) (Below.refl w.heap.size w))
    have HO := hidq (show (w.alloc (.cells #[] 39)).ownsRow w.heap.size 39 3 (.slice (some ⟨w.heap.size, 0, none⟩) 0 0) 0 (elTm.cells []) from ⟨rfl, .inr ⟨w.heap.size, 0, _, rfl, Nat.le_refl _, heap_alloc_new w _, Nat.le_refl _, by unfold maxLen; omega, rfl, rfl⟩⟩)
    go_enter Tryz.func18, Tryz.ntmps18
    go_wp2_with (at_builtin; refine wpList_append_sl (E := elTm) rfl _ _ rfl w.heap.size _ 0 [] rfl HO.out _ A rfl (U.out.alloc _) (by omega) HB.out.size ?_; intro v' w2 hown2 hgrow2)
    have hb2 : Below w.heap.size w w2 := HB.out.grown hgrow2 HB.out.size (fun q hq => (HO.out.lt q hq).1)
    have HO2 := hidq hown2
    clear hown2 hgrow2
    go_wp2
    go_ret
    exact ⟨_, rfl, by have := HO2.out; rw [Nat.zero_add, List.nil_append] at this; exact this, hb2⟩
end Go.Proofs.YthmiekinjfaflaaGreat
namespace Go.Proofs.YthmiekinjfaflaaGreat
open Go.RowKit
theorem own_lowerq {w : World} {b b' : Nat} {e : TypeId} {size : Nat} {v : Value} {n : Nat} {xs : List Value} (h : w.ownsRow b e size v n xs) (hb : b' ≤ b) : w.ownsRow b' e size v n xs := by
  refine ⟨h.1, ?_⟩
  rcases h.2 with hn | ⟨g, cap, cur, h1, h2, rest⟩
  · exact .inl hn
  · exact .inr ⟨g, cap, cur, h1, Nat.le_trans hb h2, rest⟩
set_option maxRecDepth 100000 in
/-- the call that lays a list and one term behind it into new memory -/
theorem concat_two (A : List M.Tm) (t : M.Tm) (ht : M.fitT t) (hl : A.length ≤ 65536) (v : Value) (w : World) (u : Ts w v A) :
    Calls Tryz.prog 104 #[.slice (some ⟨w.heap.size + 1, 0, none⟩) 2 2] ((w.alloc (.cells #[.int .i64 t.1, .int .i64 t.2.1, .int .i64 t.2.2] 39)).alloc (.cells #[v, .slice (some ⟨w.heap.size, 0, none⟩) 1 1] 22)) fun e w' => ∃ v', e = .returned v' ∧ w'.ownsRow w.heap.size 39 3 v' (A.length + 1) (elTm.cells (A ++ [t])) ∧ Below w.heap.size w w' := by
  have hb : Below w.heap.size w ((w.alloc (.cells #[.int .i64 t.1, .int .i64 t.2.1, .int .i64 t.2.2] 39)).alloc (.cells #[v, .slice (some ⟨w.heap.size, 0, none⟩) 1 1] 22)) := below_one (below_one (Below.refl _ _))
  have hsz : ((w.alloc (.cells #[.int .i64 t.1, .int .i64 t.2.1, .int .i64 t.2.2] 39)).alloc (.cells #[v, .slice (some ⟨w.heap.size, 0, none⟩) 1 1] 22)).heap.size = w.heap.size + 2 := by simp
  have hblk := heap_alloc_new (w.alloc (.cells #[.int .i64 t.1, .int .i64 t.2.1, .int .i64 t.2.2] 39)) (.cells #[v, .slice (some ⟨w.heap.size, 0, none⟩) 1 1] 22)
  rw [show (w.alloc (.cells #[.int .i64 t.1, .int .i64 t.2.1, .int .i64 t.2.2] 39)).heap.size = w.heap.size + 1 by simp] at hblk
  have hone : Ts ((w.alloc (.cells #[.int .i64 t.1, .int .i64 t.2.1, .int .i64 t.2.2] 39)).alloc (.cells #[v, .slice (some ⟨w.heap.size, 0, none⟩) 1 1] 22)) (.slice (some ⟨w.heap.size, 0, none⟩) 1 1) [t] := by
    refine Sl.alloc (Sl.of_own (base := 0) (e := 39) (n := 1) ⟨rfl, .inr ⟨w.heap.size, 1, _, rfl, Nat.zero_le _, heap_alloc_new w _, Nat.le_refl _, by unfold maxLen; omega, rfl, rfl⟩⟩ ?_) _
    intro x hx
    obtain rfl : x = t := by simpa using hx
    exact ht
  have hf : ([A, [t]] : List (List M.Tm)).flatten = A ++ [t] := by simp
  have hc := concatT_any [v, .slice (some ⟨w.heap.size, 0, none⟩) 1 1] [A, [t]] (w.heap.size + 1) 2 ((w.alloc (.cells #[.int .i64 t.1, .int .i64 t.2.1, .int .i64 t.2.2] 39)).alloc (.cells #[v, .slice (some ⟨w.heap.size, 0, none⟩) 1 1] 22)) rfl (by rw [hsz]; omega) (fun j hj => by
      obtain rfl | rfl : j = 0 ∨ j = 1 := by omega
      · unfold World.cell?; rw [hblk]; rfl
      · unfold World.cell?; rw [hblk]; rfl) (fun j hj => by
      obtain rfl | rfl : j = 0 ∨ j = 1 := by omega
      · exact u.below hb
      · exact hone) (by omega) (by rw [hf, List.length_append]; simp; omega)
  rw [hf] at hc
  refine hc.mono ?_
  rintro e w' ⟨v', rfl, ho, hb'⟩
  refine ⟨v', rfl, ?_, below_trans hb hb'⟩
  rw [List.length_append] at ho
  exact own_lowerq ho (by rw [hsz]; omega)
set_option maxRecDepth 100000 in
set_option maxHeartbeats 4000000 in
theorem make_any (A : List M.Tm) (t : M.Tm) (ht : M.fitT t) (v : Value) (w : World) (u : Ts w v A) :
    Calls Tryz.prog 97 #[v, .agg #[.int .i64 t.1, .int .i64 t.2.1, .int .i64 t.2.2]] w fun e w' => ∃ v', e = .returned (.tuple #[.int .i64 (M.makeV A t), v', .int .i64 (M.makeE A t)]) ∧ w'.ownsRow w.heap.size 39 3 v' (M.makeL A t).length (elTm.cells (M.makeL A t)) ∧ Below w.heap.size w w' := by
  have HB := hidq (below_one (o := .cells #[.int .i64 t.1, .int .i64 t.2.1, .int .i64 t.2.2] 39) (Below.refl w.heap.size w))
  have X0 := hidq (Bx3.new w t)
  have U0 := hidq (u.alloc (.cells #[.int .i64 t.1, .int .i64 t.2.1, .int .i64 t.2.2] 39))
  have HF := hidq ht
  obtain ⟨ao, cap, rfl, q1, q2, q4⟩ := u.form
  clear u ht q4
  obtain ⟨x, HV⟩ : ∃ x, Hid (M.findV A t = x) := ⟨_, rfl⟩
  by_cases hc : M.Ok A ∧ M.mayB t A.length = true
  · have hl := hc.1.1
    cases hp : M.plc t A with
    | none =>
      have e1 : M.findE A t = 4 := by unfold M.findE; rw [if_pos hc, if_pos hp]
      have HE := hidq e1
      by_cases h6 : A.length = 65536
      · have e2 : M.makeE A t = 6 := by unfold M.makeE; rw [if_pos e1, if_pos h6]
        have e3 : M.makeV A t = 0 := by unfold M.makeV; rw [if_neg (by rw [e1]; decide), if_neg (by rw [e2]; decide)]
        have e4 : M.makeL A t = [] := by unfold M.makeL; rw [if_neg (by rw [e1]; decide), if_neg (by rw [e2]; decide)]
        rw [e2, e3, e4]
        have h6i : (A.length : Int) = 65536 := by omega
        clear hc hp e1 e2 e3 e4 h6
        go_enter Tryz.func97, Tryz.ntmps97
        go_wp2_with (first | (go_at_call 103; refine (find_eq HF.out HV.out HE.out _ U0.out).mono ?_; rintro r w1 ⟨rfl, hb1⟩; have U1 := hidq (U0.out.below hb1); have X1 := X0.out.below hb1; have c1 := X1.cells; have B1 := hidq (below_trans HB.out hb1); have s1 := hidq (below_trans HB.out hb1).size; clear hb1))
        refine bodyPost_ret (v := .tuple #[.int .i64 _, _, .int .i64 _]) (by simp [results, Tryz.results97, go_sem]) rfl ⟨_, rfl, World.ownsRow_nil _ _ _ _, B1.out⟩
      · have e2 : M.makeE A t = 0 := by unfold M.makeE; rw [if_pos e1, if_neg h6]
        have e3 : M.makeV A t = A.length := by unfold M.makeV; rw [if_neg (by rw [e1]; decide), if_pos e2]
        have e4 : M.makeL A t = A ++ [t] := by unfold M.makeL; rw [if_neg (by rw [e1]; decide), if_pos e2]
        rw [e2, e3, e4]
        have h6i : ¬ (A.length : Int) = 65536 := by omega
        have HC2 := hidq (fun W (u : Ts W (.slice ao A.length cap) A) => concat_two A t HF.out hl (.slice ao A.length cap) W u)
        have e5 : (A ++ [t]).length = A.length + 1 := by simp
        rw [e5]
        generalize A ++ [t] = A' at *
        clear hc hp e1 e2 e3 e4 h6 e5
        go_enter Tryz.func97, Tryz.ntmps97
        go_wp2_with (first | (go_at_call 103; refine (find_eq HF.out HV.out HE.out _ U0.out).mono ?_; rintro r w1 ⟨rfl, hb1⟩; have U1 := hidq (U0.out.below hb1); have X1 := X0.out.below hb1; have c1 := X1.cells; have B1 := hidq (below_trans HB.out hb1); have s1 := hidq (below_trans HB.out hb1).size; clear hb1) | (go_at_call 104; refine (HC2.out _ U1.out).mono ?_; rintro r w2 ⟨v', rfl, ho2, hb2⟩; have O2 := hidq (own_lowerq ho2 s1.out); have B2 := hidq (below_trans B1.out hb2); clear ho2 hb2))
        refine bodyPost_ret (v := .tuple #[.int .i64 _, _, .int .i64 _]) (by simp [results, Tryz.results97, go_sem]) rfl ⟨_, rfl, O2.out, B2.out⟩
    | some i =>
      have e1 : M.findE A t = 0 := by unfold M.findE; rw [if_pos hc, if_neg (by rw [hp]; simp)]
      have e2 : M.makeE A t = 0 := by unfold M.makeE; rw [if_neg (by rw [e1]; decide), e1]
      have e3 : M.makeV A t = x := by rw [← HV.out]; unfold M.makeV M.findV; rw [if_pos e1, if_pos e1]
      have e4 : M.makeL A t = A := by unfold M.makeL; rw [if_pos e1]
      rw [e2, e3, e4]
      have HE := hidq e1
      clear hc hp e1 e2 e3 e4
      have HC := hidq (cloneT_any A hl)
      go_enter Tryz.func97, Tryz.ntmps97
      go_wp2_with (first | (go_at_call 103; refine (find_eq HF.out HV.out HE.out _ U0.out).mono ?_; rintro r w1 ⟨rfl, hb1⟩; have U1 := hidq (U0.out.below hb1); have X1 := X0.out.below hb1; have c1 := X1.cells; have B1 := hidq (below_trans HB.out hb1); have s1 := hidq (below_trans HB.out hb1).size; clear hb1) | (go_at_call 18; refine (HC.out _ _ U1.out).mono ?_; rintro r w2 ⟨v', rfl, ho2, hb2⟩; have O2 := hidq (own_lowerq ho2 s1.out); have B2 := hidq (below_trans B1.out hb2); clear ho2 hb2))
      refine bodyPost_ret (v := .tuple #[.int .i64 _, _, .int .i64 _]) (by simp [results, Tryz.results97, go_sem]) rfl ⟨_, rfl, O2.out, B2.out⟩
  · have e1 : M.findE A t = 1 := by unfold M.findE; rw [if_neg hc]
    have e2 : M.makeE A t = 1 := by unfold M.makeE; rw [if_neg (by rw [e1]; decide), e1]
    have e3 : M.makeV A t = 0 := by unfold M.makeV; rw [if_neg (by rw [e1]; decide), if_neg (by rw [e2]; decide)]
    have e4 : M.makeL A t = [] := by unfold M.makeL; rw [if_neg (by rw [e1]; decide), if_neg (by rw [e2]; decide)]
    rw [e2, e3, e4]
    have HE := hidq e1
    clear hc e1 e2 e3 e4
    go_enter Tryz.func97, Tryz.ntmps97
    go_wp2_with (first | (go_at_call 103; refine (find_eq HF.out HV.out HE.out _ U0.out).mono ?_; rintro r w1 ⟨rfl, hb1⟩; have U1 := hidq (U0.out.below hb1); have X1 := X0.out.below hb1; have c1 := X1.cells; have B1 := hidq (below_trans HB.out hb1); have s1 := hidq (below_trans HB.out hb1).size; clear hb1))
    refine bodyPost_ret (v := .tuple #[.int .i64 _, _, .int .i64 _]) (by simp [results, Tryz.results97, go_sem]) rfl ⟨_, rfl, World.ownsRow_nil _ _ _ _, B1.out⟩
set_option maxRecDepth 100000 in
theorem make_eq {A : List M.Tm} {t : M.Tm} (ht : M.fitT t) {x n : Int} {L : List M.Tm} (h : M.makeV A t = x) (hn : M.makeE A t = n) (hL : M.makeL A t = L) {v : Value} (w : World) (u : Ts w v A) :
    Calls Tryz.prog 97 #[v, .agg #[.int .i64 t.1, .int .i64 t.2.1, .int .i64 t.2.2]] w fun e w' => ∃ v', e = .returned (.tuple #[.int .i64 x, v', .int .i64 n]) ∧ w'.ownsRow w.heap.size 39 3 v' L.length (elTm.cells L) ∧ Below w.heap.size w w' := by subst h; subst hn; subst hL; exact make_any A t ht v w u
end Go.Proofs.YthmiekinjfaflaaGreat
