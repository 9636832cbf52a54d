/-
  'append' of a slice of numbers, whatever it is, to one that the call owns. Conditions: each theorem's own premises.
-/
import Derived.Test.YthmiekinjfaflaaZS1
import Derived.Deep.AppendSrc
import Derived.Lib.AppendZerosOnto
namespace Go.Proofs.Ythmiekinjfaflaa
open Go.RowKit
theorem setCells_nil (w : World) (b off : Nat) : w.setCells b off [] = w := rfl
/-- 'append(own, nil...)': the same -/
theorem run_append_own_nil {P : Program} (w : World) (base : Nat) (t ty e : TypeId) (i : TypeInfo) (ht : P.underlying t = some (.slice e)) (hi : P.info? e = some i) (size : Nat)
    (v : Value) (n : Nat) (xs : List Value) (hown : w.ownsRow base e size v n xs) (c : Nat) :
    (Builtin.append_ #[t, t] ty #[v, .slice none 0 c]).run P w = .ok v w := by
  rcases hown.2 with ⟨rfl, rfl⟩ | ⟨g, cap, cur, rfl, hbg, hg, hnc, hcm, hcs, htake⟩
  · simp [Builtin.append_, run_underlying ht, sizeOf, typeInfo, hi, Builtin.lenOf, Builtin.firstCells]
  · have := run_append_room_src (P := P) w t t ty e i ht hi g 0 n cap (.slice none 0 c) 0 [] (Src.ofNil w ht c) (by omega) (by simp) (by simp)
    rw [setCells_nil] at this
    simpa using this
section
variable {P : Program} {w : World}
theorem wpList_wanted {ops : Array Oper} {rest : List Oper} {o : Oper} {a : Act} {Q : Exit → Act → World → Prop} (hg : Region.wanted o (yielded ops a.tmps) = true)
    (h : ∀ K : Act → World → Prop, (∀ a w, wpList P ops Q rest a w → K a w) → o.wp P a w K Q) : wpList P ops Q (o :: rest) a w :=
  wpList_step fun K hK => by rw [if_pos hg]; exact h K hK
theorem wpList_append_us {ops : Array Oper} {rest : List Oper} {o : Oper} {a : Act} {Q : Exit → Act → World → Prop} (hgd : Region.wanted o (yielded ops a.tmps) = true) (s x : Operand) (t : TypeId)
    (ho : o.op = .call { callee := .builtin .append, args := #[s, x], argTypes := #[t, t] })
    (base : Nat) (e : TypeId) (i : TypeInfo) (ht : P.underlying t = some (.slice e)) (hi : P.info? e = some i) (hz : i.zero = some (.int .u64 0)) (hsize : i.size = 1) (hby : i.bytes = 8)
    (v : Value) (n : Nat) (A : List Int) (hs : a.eval s = v) (hown : w.ownsRow base e 1 v n (u64s A))
    (vx : Value) (L : List Int) (hx : a.eval x = vx) (hu : Us w vx L) (h63 : n + L.length ≤ 1000000) (hbase : base ≤ w.heap.size)
    (h : ∀ v' w', w'.ownsRow base e 1 v' (n + L.length) (u64s (A ++ L)) → w.grownBy w' v.ownBlock → wpList P ops Q rest (a.put o.dst v') w') : wpList P ops Q (o :: rest) a w := by
  obtain ⟨ao, cap, rfl, q1, q2, q3, q4⟩ := hu
  cases ao with
  | none =>
    have h0 : L.length = 0 := by
      rcases Nat.eq_zero_or_pos L.length with h | h
      · exact h
      · obtain ⟨b, off, e, _⟩ := q4 (by omega); cases e
    have hL : L = [] := List.eq_nil_of_length_eq_zero h0
    subst hL
    refine wpList_wanted hgd fun _ hK => ?_
    unfold Oper.wp execOp
    simp only [ho, resolve, invoke, builtin, Sem.run_bind, Sem.run_pure, Result.andThen_ok, List.map_toArray, List.map_cons, List.map_nil, hs, hx, List.length_nil, run_append_own_nil w base t o.type e i ht hi 1 v n _ hown cap]
    exact hK _ _ (h v w (by simpa using hown) ⟨rfl, rfl, rfl, Nat.le_refl _, fun _ _ _ => rfl⟩)
  | some ad =>
    refine wpList_wanted hgd fun _ hK => wp_append_own w s x t ho base e i (.int .u64 0) 1 8 ht hi hz hsize hby rfl (by decide) v n _ hs hown ad L.length cap (u64s L) hx (by simp) ?_ ?_ (by unfold maxLen; omega) (by omega) hbase ?_
    · intro j u hj
      have hjl : j < L.length := by
        have := (List.getElem?_eq_some_iff.1 hj).1
        simpa using this
      obtain ⟨b, off, e, h1, h2⟩ := q4 (by omega)
      cases e
      have := h2 j hjl
      simp [hjl] at hj
      subst hj
      rw [Addr.add_lit, this]; simp [hjl]
    · intro u hu
      obtain ⟨_, _, rfl⟩ := List.mem_map.1 hu
      rfl
    · intro v' w' h1 h2 _
      refine hK _ _ (h v' w' ?_ h2)
      unfold u64s at h1 ⊢
      rw [List.map_append]; exact h1
end
end Go.Proofs.Ythmiekinjfaflaa
namespace Go.Proofs.Ythmiekinjfaflaa
open Go.RowKit
theorem flat_take {Ls : List (List Int)} (k : Nat) (hk : k < Ls.length) : (Ls.take (k + 1)).flatten = (Ls.take k).flatten ++ Ls[k]?.getD [] := by
  rw [List.take_succ_eq_append_getElem hk, List.flatten_append]
  simp [hk]
theorem flat_take_le {Ls : List (List Int)} (k : Nat) : (Ls.take k).flatten.length ≤ Ls.flatten.length := by
  conv => rhs; rw [← List.take_append_drop k Ls, List.flatten_append, List.length_append]
  omega
end Go.Proofs.Ythmiekinjfaflaa
namespace Go.Proofs.Ythmiekinjfaflaa
open Go.RowKit
theorem own_back {w w' : World} {e : TypeId} {v : Value} {n : Nat} {xs : List Value} (hb : Below w.heap.size w w') {w2 : World} (h : w2.ownsRow w'.heap.size e 1 v n xs) : w2.ownsRow w.heap.size e 1 v n xs := own_lower h hb.size
theorem cell_at (w : World) (xs : Array Value) (e : TypeId) (j : Nat) : (w.alloc (.cells xs e)).cell? ⟨w.heap.size, j, none⟩ = xs[j]? := by
  rw [cell_of_row (w.alloc (.cells xs e)) w.heap.size j xs e (0, 0) (heap_alloc_new w _)]
theorem M.withE_zero {h : Int} {L : List Int} {i : Int} (hE : M.withE h L i = 0) : M.fndE h L i = 0 ∧ M.has L i = false ∧ M.hasV h L i = false ∧ M.findN h L i = (M.pos L i : Nat) ∧ M.setB h L = true ∧ L.length < 1024 ∧ M.isB h i = true := by
  unfold M.withE at hE
  by_cases hf : M.fndE h L i = 0
  · rw [if_pos hf] at hE
    cases hh : M.has L i
    · rw [hh] at hE
      have hs : M.setB h L = true ∧ M.isB h i = true := by
        have := hf
        unfold M.fndE at this
        cases hx : (M.setB h L && M.isB h i)
        · rw [hx] at this; simp at this
        · simpa using hx
      have hl := (M.set_of hs.1).2.2.1
      refine ⟨hf, rfl, by unfold M.hasV; rw [hh]; simp, by unfold M.findN; rw [if_pos hf], hs.1, ?_, hs.2⟩
      by_cases h6 : L.length = 1024
      · simp [h6] at hE
      · omega
    · rw [hh] at hE; simp at hE
  · rw [if_neg hf] at hE; simp at hE
end Go.Proofs.Ythmiekinjfaflaa
namespace Go.Proofs.Ythmiekinjfaflaa
open Go.RowKit
theorem M.outE_zero {h : Int} {L : List Int} {i : Int} (hE : M.outE h L i = 0) : M.fndE h L i = 0 ∧ M.has L i = true ∧ M.hasV h L i = true ∧ M.findN h L i = (M.pos L i : Nat) ∧ M.setB h L = true ∧ M.isB h i = true := by
  unfold M.outE at hE
  by_cases hf : M.fndE h L i = 0
  · rw [if_pos hf] at hE
    cases hh : M.has L i
    · rw [hh] at hE; simp at hE
    · have hs : M.setB h L = true ∧ M.isB h i = true := by
        have := hf
        unfold M.fndE at this
        cases hx : (M.setB h L && M.isB h i)
        · rw [hx] at this; simp at this
        · simpa using hx
      exact ⟨hf, rfl, by unfold M.hasV; rw [hh, hf]; simp, by unfold M.findN; rw [if_pos hf], hs.1, hs.2⟩
  · rw [if_neg hf] at hE; simp at hE
end Go.Proofs.Ythmiekinjfaflaa
namespace Go.Proofs.Ythmiekinjfaflaa
open Go.RowKit
theorem M.belL_part {L : List Int} {lo hi : Int} (h : L.Pairwise (· < ·)) (hl : lo ≤ hi + 1) : M.pos L lo ≤ M.pos L (hi + 1) ∧ (L.drop (M.pos L lo)).take (M.pos L (hi + 1) - M.pos L lo) = M.belL lo hi L := by
  have hle : M.pos L lo ≤ M.pos L (hi + 1) := by
    unfold M.pos
    rw [← List.countP_eq_length_filter, ← List.countP_eq_length_filter]
    refine List.countP_mono_left fun x _ hx => ?_
    simp at hx ⊢; omega
  refine ⟨hle, ?_⟩
  have h1 := M.take_pos (i := hi + 1) h
  have h2 : (L.take (M.pos L (hi + 1))).drop (M.pos L lo) = (L.drop (M.pos L lo)).take (M.pos L (hi + 1) - M.pos L lo) := by rw [List.drop_take]
  rw [← h2, h1]
  have h3 : (L.filter (fun x => decide (x < hi + 1))).take (M.pos L lo) = L.filter (fun x => decide (x < lo)) := by
    rw [← h1, List.take_take, Nat.min_eq_left hle, M.take_pos h]
  have h4 := M.partsL (L := L.filter (fun x => decide (x < hi + 1))) lo (h.filter _)
  have h5 : (L.filter (fun x => decide (x < hi + 1))).filter (fun x => decide (x < lo)) = L.filter (fun x => decide (x < lo)) := by
    rw [List.filter_filter]
    refine List.filter_congr fun x _ => ?_
    by_cases hx : x < lo
    · simp [hx]; omega
    · simp [hx]
  rw [h5] at h4
  have h6 : (L.filter (fun x => decide (x < hi + 1))).drop (M.pos L lo) = (L.filter (fun x => decide (x < hi + 1))).filter (fun x => decide (lo ≤ x)) := by
    conv => lhs; rw [← h4]
    unfold M.pos
    exact List.drop_left
  rw [h6, List.filter_filter]
  unfold M.belL
  refine List.filter_congr fun x _ => ?_
  congr 1
  by_cases hx : x ≤ hi
  · simp [hx]; omega
  · simp [hx]; omega
end Go.Proofs.Ythmiekinjfaflaa
