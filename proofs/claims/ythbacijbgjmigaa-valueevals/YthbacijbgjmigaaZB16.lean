/-
  Parts of a slice of octets; 'append' of octets to a slice that the call owns. Conditions: each theorem's own premises.
-/
import Derived.Test.YthbacijbgjmigaaZL3MixApart
import Derived.Deep.AppendSrc
namespace Go.Proofs.Ythbacijbgjmigaa
open Go.RowKit
theorem Bs.nul (W : World) (ao : Option Addr) : Bs W (.slice ao 0 0) [] := ⟨ao, 0, rfl, by simp, by simp [maxLen], by simp, fun h => by omega⟩
theorem Bs.take {W : World} {b off cap n A : Nat} {L : List Int} (h : Bs W (.slice (some ⟨b, off, none⟩) n cap) L) (hA : A ≤ n) : Bs W (.slice (some ⟨b, off, none⟩) A cap) (L.take A) := by
  obtain ⟨ao, cap', e, q1, q2, q3, q4⟩ := h
  simp only [Value.slice.injEq] at e
  obtain ⟨rfl, rfl, rfl⟩ := e
  have hlen : (L.take A).length = A := by rw [List.length_take]; omega
  refine ⟨_, _, by rw [hlen], by omega, by omega, fun x hx => q3 x (List.mem_of_mem_take hx), fun h0 => ?_⟩
  obtain ⟨b', off', e, q5, q6⟩ := q4 h0
  cases e
  refine ⟨b, off, rfl, q5, fun j hj => ?_⟩
  rw [hlen] at hj
  rw [q6 j (by omega), List.getElem?_take, if_pos hj]
theorem Bs.of_own {W : World} {base : Nat} {e : TypeId} {v : Value} {n : Nat} {L : List Int} (h : W.ownsRow base e 1 v n (u8s L)) (hb : ∀ x ∈ L, 0 ≤ x ∧ x ≤ 255) : Bs W v L := by
  have hn : L.length = n := by have := h.1; simpa [u8s] using this
  rcases h.2 with ⟨h1, h2⟩ | ⟨g, cap, cur, h1, h2, h3, h4, h5, h6, h7⟩
  · exact ⟨none, 0, by rw [h1, hn, h2], by omega, by simp [maxLen], hb, fun h0 => by omega⟩
  · refine ⟨some ⟨g, 0, none⟩, cap, by rw [h1, hn], by omega, h5, hb, fun h0 => ⟨g, 0, rfl, (Array.getElem?_eq_some_iff.1 h3).1, fun j hj => ?_⟩⟩
    subst h1
    rw [Nat.zero_add, h.cellAt j (by omega)]
    unfold u8s
    rw [List.getElem?_map, List.getElem?_eq_getElem hj]
    simp
theorem setCells_nil8 (w : World) (b off : Nat) : w.setCells b off [] = w := rfl
/-- 'append(own, nil...)': the same -/
theorem run_append_own_nil8 {P : Program} (w : World) (base : Nat) (t ty e : TypeId) (i : TypeInfo) (ht : P.underlying t = some (.slice e)) (hi : P.info? e = some i) (size : Nat)
    (v : Value) (n : Nat) (xs : List Value) (hown : w.ownsRow base e size v n xs) (c : Nat) :
    (Builtin.append_ #[t, t] ty #[v, .slice none 0 c]).run P w = .ok v w := by
  rcases hown.2 with ⟨rfl, rfl⟩ | ⟨g, cap, cur, rfl, hbg, hg, hnc, hcm, hcs, htake⟩
  · simp [Builtin.append_, run_underlying ht, sizeOf, typeInfo, hi, Builtin.lenOf, Builtin.firstCells]
  · have := run_append_room_src (P := P) w t t ty e i ht hi g 0 n cap (.slice none 0 c) 0 [] (Src.ofNil w ht c) (by omega) (by simp) (by simp)
    rw [setCells_nil8] at this
    simpa using this
section
variable {P : Program} {w : World}
theorem wpList_wanted8 {ops : Array Oper} {rest : List Oper} {o : Oper} {a : Act} {Q : Exit → Act → World → Prop} (hg : Region.wanted o (yielded ops a.tmps) = true)
    (h : ∀ K : Act → World → Prop, (∀ a w, wpList P ops Q rest a w → K a w) → o.wp P a w K Q) : wpList P ops Q (o :: rest) a w :=
  wpList_step fun K hK => by rw [if_pos hg]; exact h K hK
theorem wpList_append_bs {ops : Array Oper} {rest : List Oper} {o : Oper} {a : Act} {Q : Exit → Act → World → Prop} (hgd : Region.wanted o (yielded ops a.tmps) = true) (s x : Operand) (t : TypeId)
    (ho : o.op = .call { callee := .builtin .append, args := #[s, x], argTypes := #[t, t] })
    (base : Nat) (e : TypeId) (i : TypeInfo) (ht : P.underlying t = some (.slice e)) (hi : P.info? e = some i) (hz : i.zero = some (.int .u8 0)) (hsize : i.size = 1) (hby : i.bytes = 1)
    (v : Value) (n : Nat) (A : List Int) (hs : a.eval s = v) (hown : w.ownsRow base e 1 v n (u8s A))
    (vx : Value) (L : List Int) (hx : a.eval x = vx) (hu : Bs w vx L) (h63 : n + L.length ≤ 1000000) (hbase : base ≤ w.heap.size)
    (h : ∀ v' w', w'.ownsRow base e 1 v' (n + L.length) (u8s (A ++ L)) → w.grownBy w' v.ownBlock → wpList P ops Q rest (a.put o.dst v') w') : wpList P ops Q (o :: rest) a w := by
  obtain ⟨ao, cap, rfl, q1, q2, q3, q4⟩ := hu
  cases ao with
  | none =>
    have h0 : L.length = 0 := by
      rcases Nat.eq_zero_or_pos L.length with h | h
      · exact h
      · obtain ⟨b, off, e, _⟩ := q4 (by omega); cases e
    have hL : L = [] := List.eq_nil_of_length_eq_zero h0
    subst hL
    refine wpList_wanted8 hgd fun _ hK => ?_
    unfold Oper.wp execOp
    simp only [ho, resolve, invoke, builtin, Sem.run_bind, Sem.run_pure, Result.andThen_ok, List.map_toArray, List.map_cons, List.map_nil, hs, hx, List.length_nil, run_append_own_nil8 w base t o.type e i ht hi 1 v n _ hown cap]
    exact hK _ _ (h v w (by simpa using hown) ⟨rfl, rfl, rfl, Nat.le_refl _, fun _ _ _ => rfl⟩)
  | some ad =>
    refine wpList_wanted8 hgd fun _ hK => wp_append_own w s x t ho base e i (.int .u8 0) 1 1 ht hi hz hsize hby rfl (by decide) v n _ hs hown ad L.length cap (u8s L) hx (by simp [u8s]) ?_ ?_ (by unfold maxLen; omega) (by omega) hbase ?_
    · intro j u hj
      have hjl : j < L.length := by
        have := (List.getElem?_eq_some_iff.1 hj).1
        simpa [u8s] using this
      obtain ⟨b, off, e, h1, h2⟩ := q4 (by omega)
      cases e
      have := h2 j hjl
      rw [u8s_get L j hjl] at hj
      cases hj
      rw [Addr.add_lit, this]
    · intro u hu
      obtain ⟨_, _, rfl⟩ := List.mem_map.1 hu
      rfl
    · intro v' w' h1 h2 _
      refine hK _ _ (h v' w' ?_ h2)
      unfold u8s at h1 ⊢
      rw [List.map_append]; exact h1
end
end Go.Proofs.Ythbacijbgjmigaa
