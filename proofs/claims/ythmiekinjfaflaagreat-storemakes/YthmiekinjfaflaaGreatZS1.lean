/-
  A slice of numbers in memory, as a list; it stays while what lay there stays. Small facts. No condition.
-/
import Derived.Test.YthmiekinjfaflaaGreatZLM
import Derived.Test.YthmiekinjfaflaaGreatZR1
import Derived.Deep.RegionWith
import Derived.Deep.AppendSrc
import Derived.Lib.AppendZerosOnto
namespace Go.Proofs.YthmiekinjfaflaaGreat
open Go.RowKit
theorem hid {p : Prop} (h : p) : Hid p := h
/-- the slice value v holds the numbers L -/
def Us (W : World) (v : Value) (L : List Int) : Prop :=
  ∃ ao cap, v = .slice ao L.length cap ∧ L.length ≤ cap ∧ cap ≤ maxLen ∧ (∀ x ∈ L, 0 ≤ x ∧ x ≤ 18446744073709551615) ∧
    (0 < cap → ∃ b off, ao = some ⟨b, off, none⟩ ∧ b < W.heap.size ∧ ∀ j, j < L.length → W.cell? ⟨b, off + j, none⟩ = some (.int .u64 (L[j]?.getD 0)))
theorem Us.below {W W' : World} {v : Value} {L : List Int} (h : Us W v L) (hb : Below W.heap.size W W') : Us W' v L := by
  obtain ⟨ao, cap, h1, h2, h3, h4, h5⟩ := h
  refine ⟨ao, cap, h1, h2, h3, h4, fun h0 => ?_⟩
  obtain ⟨b, off, h6, h7, h8⟩ := h5 h0
  exact ⟨b, off, h6, Nat.lt_of_lt_of_le h7 hb.size, fun j hj => (hb.cell (p := ⟨b, off + j, none⟩) h7).trans (h8 j hj)⟩
theorem Us.alloc {W : World} {v : Value} {L : List Int} (h : Us W v L) (o : Obj) : Us (W.alloc o) v L := h.below ((Below.refl _ _).alloc (Nat.le_refl _) o)
theorem getD_mem {L : List Int} {P : Int → Prop} (h : ∀ x ∈ L, P x) (k : Nat) (hk : k < L.length) : P (L[k]?.getD 0) := by
  have : L[k]?.getD 0 = L[k] := by simp [hk]
  rw [this]; exact h _ (List.getElem_mem hk)
theorem drop_getD {L : List Int} (k : Nat) (hk : k < L.length) : L.drop k = L[k]?.getD 0 :: L.drop (k + 1) := by
  rw [List.drop_eq_getElem_cons hk]; simp [hk]
theorem take_getD {L : List Int} (k : Nat) (hk : k < L.length) : L.take (k + 1) = L.take k ++ [L[k]?.getD 0] := by
  rw [List.take_succ_eq_append_getElem hk]; simp [hk]
theorem Us.of_own {W : World} {base : Nat} {e : TypeId} {v : Value} {n : Nat} {L : List Int} (h : W.ownsRow base e 1 v n (u64s L)) (hb : ∀ x ∈ L, 0 ≤ x ∧ x ≤ 18446744073709551615) : Us W v L := by
  have hn : L.length = n := by have := h.1; simpa using this
  rcases h.2 with ⟨h1, h2⟩ | ⟨g, cap, cur, h1, h2, h3, h4, h5, h6, h7⟩
  · exact ⟨none, 0, by rw [h1, hn, h2], by omega, by simp [maxLen], hb, fun h0 => by omega⟩
  · refine ⟨some ⟨g, 0, none⟩, cap, by rw [h1, hn], by omega, h5, hb, fun h0 => ⟨g, 0, rfl, (Array.getElem?_eq_some_iff.1 h3).1, fun j hj => ?_⟩⟩
    subst h1
    rw [Nat.zero_add, h.cellAt j (by omega)]
    unfold u64s
    rw [List.getElem?_map, List.getElem?_eq_getElem hj]
    simp
/-- a part of it -/
theorem Us.part {W : World} {b off cap n : Nat} {L : List Int} (h : Us W (.slice (some ⟨b, off, none⟩) n cap) L) (lo hi : Nat) (h1 : lo ≤ hi) (h2 : hi ≤ n) (h3 : ¬ cap = lo) : Us W (.slice (some ⟨b, off + lo, none⟩) (hi - lo) (cap - lo)) ((L.drop lo).take (hi - lo)) := by
  obtain ⟨ao, cap', e, q1, q2, q3, q4⟩ := h
  simp only [Value.slice.injEq] at e
  obtain ⟨rfl, rfl, rfl⟩ := e
  obtain ⟨b', off', e, q5, q6⟩ := q4 (by omega)
  cases e
  have hlen : ((L.drop lo).take (hi - lo)).length = hi - lo := by simp; omega
  refine ⟨_, _, by rw [hlen], by omega, by omega, fun x hx => q3 x (List.mem_of_mem_drop (List.mem_of_mem_take hx)), fun _ => ⟨b, off + lo, rfl, q5, fun j hj => ?_⟩⟩
  rw [hlen] at hj
  rw [Nat.add_assoc, q6 (lo + j) (by omega), List.getElem?_take, if_pos hj, List.getElem?_drop]
theorem Us.empty {W : World} {ao : Option Addr} : Us W (.slice ao 0 0) [] := ⟨ao, 0, rfl, by simp, by simp [maxLen], by simp, fun h => by omega⟩
theorem Us.fits {W : World} {v : Value} {L : List Int} (h : Us W v L) : ∀ x ∈ L, 0 ≤ x ∧ x ≤ 18446744073709551615 := by
  obtain ⟨_, _, _, _, _, q, _⟩ := h; exact q
theorem Us.drew {W : World} {v : Value} {L : List Int} (h : Us W v L) : Us W.drew v L := h.below (Below.refl _ _).drew
theorem Us.nil (W : World) : Us W (.slice none 0 0) [] := ⟨none, 0, rfl, by simp, by simp [maxLen], by simp, fun h => by simp at h⟩
end Go.Proofs.YthmiekinjfaflaaGreat
namespace Go.Proofs.YthmiekinjfaflaaGreat
open Go.RowKit
def M.lastV (h : Int) : Int := if M.htB h then M.p2 h - 1 else 0
def M.setLast (h : Int) (L : List Int) : Int := if M.setB h L then M.p2 h - 1 else 0
def M.lastE (h : Int) : Int := if M.htB h then 0 else 1
end Go.Proofs.YthmiekinjfaflaaGreat
namespace Go.Proofs.YthmiekinjfaflaaGreat
open Go.RowKit
namespace M
theorem rising_lt {L : List Int} (h : L.Pairwise (· < ·)) {a b : Nat} (hab : a < b) (hb : b < L.length) : L[a]?.getD 0 < L[b]?.getD 0 := by
  have := List.pairwise_iff_getElem.1 h a b (by omega) hb hab
  simpa [show a < L.length by omega, hb] using this
theorem pos_lt {L : List Int} {x : Int} (h : L.Pairwise (· < ·)) {a : Nat} (ha : a < L.length) : a < pos L x ↔ L[a]?.getD 0 < x := by
  have hp := partsL x h
  have hg : L[a]? = (L.filter (fun y => decide (y < x)) ++ L.filter (fun y => decide (x ≤ y)))[a]? := by rw [hp]
  constructor
  · intro hlt
    rw [List.getElem?_append_left hlt] at hg
    have hm := List.getElem_mem hlt
    rw [hg, List.getElem?_eq_getElem hlt]
    simpa using (List.mem_filter.1 hm).2
  · intro hlt
    apply Classical.byContradiction
    intro hge
    rw [List.getElem?_append_right (by unfold pos at hge; omega)] at hg
    have hlen : (L.filter (fun y => decide (y < x))).length + (L.filter (fun y => decide (x ≤ y))).length = L.length := by
      rw [← List.length_append, hp]
    have hin : a - (L.filter (fun y => decide (y < x))).length < (L.filter (fun y => decide (x ≤ y))).length := by unfold pos at hge; omega
    have hm := List.getElem_mem hin
    rw [hg, List.getElem?_eq_getElem hin] at hlt
    have := (List.mem_filter.1 hm).2
    simp at this hlt
    omega
theorem has_pos {L : List Int} {x : Int} (h : L.Pairwise (· < ·)) : has L x = true ↔ pos L x < L.length ∧ L[pos L x]?.getD 0 = x := by
  constructor
  · intro hh
    have h1 := drop_pos (i := x) h
    rw [filter_ge_in h hh] at h1
    have h2 := (out_parts h hh).1
    have h3 := congrArg (fun l => l[0]?) h1
    simp at h3
    exact ⟨by omega, by rw [h3]; rfl⟩
  · rintro ⟨h1, h2⟩
    unfold has
    simp only [decide_eq_true_eq]
    rw [← h2]
    simp only [h1, getElem?_pos, Option.getD_some]
    exact List.getElem_mem h1
end M
end Go.Proofs.YthmiekinjfaflaaGreat
namespace Go.Proofs.YthmiekinjfaflaaGreat
open Go.RowKit
theorem M.setE_yes {h : Int} {L : List Int} (hs : M.setB h L = true) : M.setE h L = 0 := by unfold M.setE; rw [hs]; rfl
theorem M.setE_no {h : Int} {L : List Int} (hs : M.setB h L = false) : M.setE h L = 1 := by unfold M.setE; rw [hs]; rfl
theorem M.leafE_is {h i : Int} (hs : M.isB h i = true) : M.leafE h i = 0 := by
  unfold M.isB at hs
  simp only [Bool.and_eq_true, decide_eq_true_eq] at hs
  exact M.leafE_yes (M.ht_of hs.1).1 (M.ht_of hs.1).2 hs.2
theorem M.leafE_isnt {h i : Int} (hs : M.isB h i = false) : (M.leafE h i != 0) = true := by
  rw [bne_iff_ne]
  intro e
  unfold M.leafE at e
  unfold M.isB at hs
  cases hh : M.htB h
  · rw [hh] at e; simp at e
  · rw [hh] at e hs; simp at e hs; omega
end Go.Proofs.YthmiekinjfaflaaGreat
namespace Go.Proofs.YthmiekinjfaflaaGreat
open Go.RowKit
theorem setCells_nil (w : World) (b off : Nat) : w.setCells b off [] = w := rfl
/-- 'append(own, nil...)': the same -/
theorem run_append_own_nil {P : Program} (w : World) (base : Nat) (t ty e : TypeId) (i : TypeInfo) (ht : P.underlying t = some (.slice e)) (hi : P.info? e = some i) (size : Nat)
    (v : Value) (n : Nat) (xs : List Value) (hown : w.ownsRow base e size v n xs) (c : Nat) :
    (Builtin.append_ #[t, t] ty #[v, .slice none 0 c]).run P w = .ok v w := by
  rcases hown.2 with ⟨rfl, rfl⟩ | ⟨g, cap, cur, rfl, hbg, hg, hnc, hcm, hcs, htake⟩
  · simp [Builtin.append_, run_underlying ht, sizeOf, typeInfo, hi, Builtin.lenOf, Builtin.firstCells]
  · have := run_append_room_src (P := P) w t t ty e i ht hi g 0 n cap (.slice none 0 c) 0 [] (Src.ofNil w ht c) (by omega) (by simp) (by simp)
    rw [setCells_nil] at this
    simpa using this
section
variable {P : Program} {w : World}
theorem wpList_wanted {ops : Array Oper} {rest : List Oper} {o : Oper} {a : Act} {Q : Exit → Act → World → Prop} (hg : Region.wanted o (yielded ops a.tmps) = true)
    (h : ∀ K : Act → World → Prop, (∀ a w, wpList P ops Q rest a w → K a w) → o.wp P a w K Q) : wpList P ops Q (o :: rest) a w :=
  wpList_step fun K hK => by rw [if_pos hg]; exact h K hK
theorem wpList_append_us {ops : Array Oper} {rest : List Oper} {o : Oper} {a : Act} {Q : Exit → Act → World → Prop} (hgd : Region.wanted o (yielded ops a.tmps) = true) (s x : Operand) (t : TypeId)
    (ho : o.op = .call { callee := .builtin .append, args := #[s, x], argTypes := #[t, t] })
    (base : Nat) (e : TypeId) (i : TypeInfo) (ht : P.underlying t = some (.slice e)) (hi : P.info? e = some i) (hz : i.zero = some (.int .u64 0)) (hsize : i.size = 1) (hby : i.bytes = 8)
    (v : Value) (n : Nat) (A : List Int) (hs : a.eval s = v) (hown : w.ownsRow base e 1 v n (u64s A))
    (vx : Value) (L : List Int) (hx : a.eval x = vx) (hu : Us w vx L) (h63 : n + L.length ≤ 1000000) (hbase : base ≤ w.heap.size)
    (h : ∀ v' w', w'.ownsRow base e 1 v' (n + L.length) (u64s (A ++ L)) → w.grownBy w' v.ownBlock → wpList P ops Q rest (a.put o.dst v') w') : wpList P ops Q (o :: rest) a w := by
  obtain ⟨ao, cap, rfl, q1, q2, q3, q4⟩ := hu
  cases ao with
  | none =>
    have h0 : L.length = 0 := by
      rcases Nat.eq_zero_or_pos L.length with h | h
      · exact h
      · obtain ⟨b, off, e, _⟩ := q4 (by omega); cases e
    have hL : L = [] := List.eq_nil_of_length_eq_zero h0
    subst hL
    refine wpList_wanted hgd fun _ hK => ?_
    unfold Oper.wp execOp
    simp only [ho, resolve, invoke, builtin, Sem.run_bind, Sem.run_pure, Result.andThen_ok, List.map_toArray, List.map_cons, List.map_nil, hs, hx, List.length_nil, run_append_own_nil w base t o.type e i ht hi 1 v n _ hown cap]
    exact hK _ _ (h v w (by simpa using hown) ⟨rfl, rfl, rfl, Nat.le_refl _, fun _ _ _ => rfl⟩)
  | some ad =>
    refine wpList_wanted hgd fun _ hK => wp_append_own w s x t ho base e i (.int .u64 0) 1 8 ht hi hz hsize hby rfl (by decide) v n _ hs hown ad L.length cap (u64s L) hx (by simp) ?_ ?_ (by unfold maxLen; omega) (by omega) hbase ?_
    · intro j u hj
      have hjl : j < L.length := by
        have := (List.getElem?_eq_some_iff.1 hj).1
        simpa using this
      obtain ⟨b, off, e, h1, h2⟩ := q4 (by omega)
      cases e
      have := h2 j hjl
      simp [hjl] at hj
      subst hj
      rw [Addr.add_lit, this]; simp [hjl]
    · intro u hu
      obtain ⟨_, _, rfl⟩ := List.mem_map.1 hu
      rfl
    · intro v' w' h1 h2 _
      refine hK _ _ (h v' w' ?_ h2)
      unfold u64s at h1 ⊢
      rw [List.map_append]; exact h1
end
end Go.Proofs.YthmiekinjfaflaaGreat
namespace Go.Proofs.YthmiekinjfaflaaGreat
open Go.RowKit
theorem flat_take {Ls : List (List Int)} (k : Nat) (hk : k < Ls.length) : (Ls.take (k + 1)).flatten = (Ls.take k).flatten ++ Ls[k]?.getD [] := by
  rw [List.take_succ_eq_append_getElem hk, List.flatten_append]
  simp [hk]
theorem flat_take_le {Ls : List (List Int)} (k : Nat) : (Ls.take k).flatten.length ≤ Ls.flatten.length := by
  conv => rhs; rw [← List.take_append_drop k Ls, List.flatten_append, List.length_append]
  omega
end Go.Proofs.YthmiekinjfaflaaGreat
namespace Go.Proofs.YthmiekinjfaflaaGreat
open Go.RowKit
theorem own_back {w w' : World} {e : TypeId} {v : Value} {n : Nat} {xs : List Value} (hb : Below w.heap.size w w') {w2 : World} (h : w2.ownsRow w'.heap.size e 1 v n xs) : w2.ownsRow w.heap.size e 1 v n xs := own_lower h hb.size
theorem cell_at (w : World) (xs : Array Value) (e : TypeId) (j : Nat) : (w.alloc (.cells xs e)).cell? ⟨w.heap.size, j, none⟩ = xs[j]? := by
  rw [cell_of_row (w.alloc (.cells xs e)) w.heap.size j xs e (0, 0) (heap_alloc_new w _)]
theorem M.withE_zero {h : Int} {L : List Int} {i : Int} (hE : M.withE h L i = 0) : M.fndE h L i = 0 ∧ M.has L i = false ∧ M.hasV h L i = false ∧ M.findN h L i = (M.pos L i : Nat) ∧ M.setB h L = true ∧ L.length < 1024 ∧ M.isB h i = true := by
  unfold M.withE at hE
  by_cases hf : M.fndE h L i = 0
  · rw [if_pos hf] at hE
    cases hh : M.has L i
    · rw [hh] at hE
      have hs : M.setB h L = true ∧ M.isB h i = true := by
        have := hf
        unfold M.fndE at this
        cases hx : (M.setB h L && M.isB h i)
        · rw [hx] at this; simp at this
        · simpa using hx
      have hl := (M.set_of hs.1).2.2.1
      refine ⟨hf, rfl, by unfold M.hasV; rw [hh]; simp, by unfold M.findN; rw [if_pos hf], hs.1, ?_, hs.2⟩
      by_cases h6 : L.length = 1024
      · simp [h6] at hE
      · omega
    · rw [hh] at hE; simp at hE
  · rw [if_neg hf] at hE; simp at hE
end Go.Proofs.YthmiekinjfaflaaGreat
namespace Go.Proofs.YthmiekinjfaflaaGreat
open Go.RowKit
theorem M.outE_zero {h : Int} {L : List Int} {i : Int} (hE : M.outE h L i = 0) : M.fndE h L i = 0 ∧ M.has L i = true ∧ M.hasV h L i = true ∧ M.findN h L i = (M.pos L i : Nat) ∧ M.setB h L = true ∧ M.isB h i = true := by
  unfold M.outE at hE
  by_cases hf : M.fndE h L i = 0
  · rw [if_pos hf] at hE
    cases hh : M.has L i
    · rw [hh] at hE; simp at hE
    · have hs : M.setB h L = true ∧ M.isB h i = true := by
        have := hf
        unfold M.fndE at this
        cases hx : (M.setB h L && M.isB h i)
        · rw [hx] at this; simp at this
        · simpa using hx
      exact ⟨hf, rfl, by unfold M.hasV; rw [hh, hf]; simp, by unfold M.findN; rw [if_pos hf], hs.1, hs.2⟩
  · rw [if_neg hf] at hE; simp at hE
end Go.Proofs.YthmiekinjfaflaaGreat
namespace Go.Proofs.YthmiekinjfaflaaGreat
open Go.RowKit
theorem M.belL_part {L : List Int} {lo hi : Int} (h : L.Pairwise (· < ·)) (hl : lo ≤ hi + 1) : M.pos L lo ≤ M.pos L (hi + 1) ∧ (L.drop (M.pos L lo)).take (M.pos L (hi + 1) - M.pos L lo) = M.belL lo hi L := by
  have hle : M.pos L lo ≤ M.pos L (hi + 1) := by
    unfold M.pos
    rw [← List.countP_eq_length_filter, ← List.countP_eq_length_filter]
    refine List.countP_mono_left fun x _ hx => ?_
    simp at hx ⊢; omega
  refine ⟨hle, ?_⟩
  have h1 := M.take_pos (i := hi + 1) h
  have h2 : (L.take (M.pos L (hi + 1))).drop (M.pos L lo) = (L.drop (M.pos L lo)).take (M.pos L (hi + 1) - M.pos L lo) := by rw [List.drop_take]
  rw [← h2, h1]
  have h3 : (L.filter (fun x => decide (x < hi + 1))).take (M.pos L lo) = L.filter (fun x => decide (x < lo)) := by
    rw [← h1, List.take_take, Nat.min_eq_left hle, M.take_pos h]
  have h4 := M.partsL (L := L.filter (fun x => decide (x < hi + 1))) lo (h.filter _)
  have h5 : (L.filter (fun x => decide (x < hi + 1))).filter (fun x => decide (x < lo)) = L.filter (fun x => decide (x < lo)) := by
    rw [List.filter_filter]
    refine List.filter_congr fun x _ => ?_
    by_cases hx : x < lo
    · simp [hx]; omega
    · simp [hx]
  rw [h5] at h4
  have h6 : (L.filter (fun x => decide (x < hi + 1))).drop (M.pos L lo) = (L.filter (fun x => decide (x < hi + 1))).filter (fun x => decide (lo ≤ x)) := by
    conv => lhs; rw [← h4]
    unfold M.pos
    exact List.drop_left
  rw [h6, List.filter_filter]
  unfold M.belL
  refine List.filter_congr fun x _ => ?_
  congr 1
  by_cases hx : x ≤ hi
  · simp [hx]; omega
  · simp [hx]; omega
end Go.Proofs.YthmiekinjfaflaaGreat
namespace Go.Proofs.YthmiekinjfaflaaGreat
open Go.RowKit
/-- the one ahead of place k, or less than all -/
def M.prev (L : List Int) (k : Nat) : Int := if k = 0 then -1 else L[k - 1]?.getD 0
theorem M.prev_succ (L : List Int) (k : Nat) : M.prev L (k + 1) = L[k]?.getD 0 := by unfold M.prev; rw [if_neg (by omega)]; rfl
theorem M.isB_ht {h i : Int} (hh : M.htB h = true) : M.isB h i = decide (i ≤ M.p2 h - 1) := by
  unfold M.isB; rw [hh, Bool.true_and]
  by_cases hx : i < M.p2 h
  · rw [decide_eq_true hx, decide_eq_true (by omega)]
  · rw [decide_eq_false hx, decide_eq_false (by omega)]
end Go.Proofs.YthmiekinjfaflaaGreat
namespace Go.Proofs.YthmiekinjfaflaaGreat
open Go.RowKit
theorem Us.one (w : World) (x : Int) (e : TypeId) (h0 : 0 ≤ x) (h1 : x ≤ 18446744073709551615) : Us (w.alloc (.cells #[.int .u64 x] e)) (.slice (some ⟨w.heap.size, 0, none⟩) 1 1) [x] := by
  refine ⟨_, _, rfl, by simp, by unfold maxLen; omega, by simp; omega, fun _ => ⟨w.heap.size, 0, rfl, by simp, fun j hj => ?_⟩⟩
  match j, hj with
  | 0, _ => rw [Nat.zero_add, cell_at]; rfl
theorem filter_take {L : List Int} (f : Int → Bool) (k : Nat) (hk : k < L.length) : (L.take (k + 1)).filter f = (L.take k).filter f ++ (if f (L[k]?.getD 0) then [L[k]?.getD 0] else []) := by
  rw [take_getD k hk, List.filter_append]
  congr 1
  by_cases h : f (L[k]?.getD 0) = true
  · rw [if_pos h, List.filter_cons_of_pos h]; rfl
  · rw [if_neg h, List.filter_cons_of_neg h]; rfl
theorem filter_take_le {L : List Int} (f : Int → Bool) (k : Nat) : ((L.take k).filter f).length ≤ L.length :=
  Nat.le_trans (List.length_filter_le _ _) (by rw [List.length_take]; omega)
theorem append3_left (A : List Int) (i : Int) (B : List Int) (y : Int) : A ++ [i] ++ (B ++ [y]) = (A ++ [i] ++ B) ++ [y] := by simp
end Go.Proofs.YthmiekinjfaflaaGreat
namespace Go.Proofs.YthmiekinjfaflaaGreat
open Go.RowKit
end Go.Proofs.YthmiekinjfaflaaGreat
