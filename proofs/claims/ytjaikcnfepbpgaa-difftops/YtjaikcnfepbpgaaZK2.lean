/-
  Parts of a slice of spans; 'append' of spans to what the call owns, also where the order is left open. Conditions: each theorem's own premises.
-/
import Derived.Test.YtjaikcnfepbpgaaZK1
import Derived.Test.YtjaikcnfepbpgaaZKM
import Derived.Deep.RegionLaw
namespace Go.Proofs.Ytjaikcnfepbpgaa
open Go.RowKit
theorem Ps.part {W : World} {b off cap n : Nat} {S : List (Int × Int)} (h : Ps W (.slice (some ⟨b, off, none⟩) n cap) S) (lo hi : Nat) (h1 : lo ≤ hi) (h2 : hi ≤ n) (h3 : ¬ cap = lo) : Ps W (.slice (some ⟨b, off + lo * 2, none⟩) (hi - lo) (cap - lo)) ((S.drop lo).take (hi - lo)) := by
  obtain ⟨ao, cap', e, q1, q2, q3, q4⟩ := h
  simp only [Value.slice.injEq] at e
  obtain ⟨rfl, rfl, rfl⟩ := e
  obtain ⟨b', off', e, q5, q6⟩ := q4 (by omega)
  cases e
  have hlen : ((S.drop lo).take (hi - lo)).length = hi - lo := by simp; omega
  refine ⟨_, _, by rw [hlen], by omega, by omega, fun x hx => q3 x (List.mem_of_mem_drop (List.mem_of_mem_take hx)), fun _ => ⟨b, off + lo * 2, rfl, q5, fun j hj => ?_⟩⟩
  rw [hlen] at hj
  have := q6 (lo + j) (by omega)
  rw [show off + lo * 2 + j * 2 = off + (lo + j) * 2 by omega, List.getElem?_take, if_pos hj, List.getElem?_drop]
  exact this
theorem Ps.empty {W : World} {ao : Option Addr} : Ps W (.slice ao 0 0) [] := ⟨ao, 0, rfl, by simp, by simp [maxLen], by simp, fun h => by omega⟩
theorem Ps.fits {W : World} {v : Value} {S : List (Int × Int)} (h : Ps W v S) : ∀ x ∈ S, 0 ≤ x.1 ∧ x.1 ≤ 18446744073709551615 ∧ 0 ≤ x.2 ∧ x.2 ≤ 18446744073709551615 := by
  obtain ⟨_, _, _, _, _, q, _⟩ := h; exact q
theorem Ps.one (w : World) (x y : Int) (e : TypeId) (h0 : 0 ≤ x ∧ x ≤ 18446744073709551615 ∧ 0 ≤ y ∧ y ≤ 18446744073709551615) : Ps (w.alloc (.cells #[.int .u64 x, .int .u64 y] e)) (.slice (some ⟨w.heap.size, 0, none⟩) 1 1) [(x, y)] := by
  refine ⟨_, _, rfl, by simp, by unfold maxLen; omega, by simpa using h0, fun _ => ⟨w.heap.size, 0, rfl, by simp, fun j hj => ?_⟩⟩
  match j, hj with
  | 0, _ => rw [cell_at, cell_at]; exact ⟨rfl, rfl⟩
theorem below_grown {W w' : World} {row : Option Nat} (hg : W.grownBy w' row) (hr : row = none) : Below W.heap.size W w' := (Below.refl _ W).grown hg (Nat.le_refl _) (fun k hk => by rw [hr] at hk; cases hk)
section
variable {P : Program} {w : World}
theorem wp_append_ps {o : Oper} {a : Act} {K : Act → World → Prop} {Q : Exit → Act → World → Prop} (s x : Operand) (t : TypeId)
    (ho : o.op = .call { callee := .builtin .append, args := #[s, x], argTypes := #[t, t] })
    (base : Nat) (e : TypeId) (i : TypeInfo) (ht : P.underlying t = some (.slice e)) (hi : P.info? e = some i) (hz : i.zero = some (.agg #[.int .u64 0, .int .u64 0])) (hsize : i.size = 2) (hby : i.bytes = 16)
    (v : Value) (n : Nat) (A : List (Int × Int)) (hs : a.eval s = v) (hown : w.ownsRow base e 2 v n (spanC A))
    (vx : Value) (S : List (Int × Int)) (hx : a.eval x = vx) (hu : Ps w vx S) (h63 : n + S.length ≤ 1000000) (hbase : base ≤ w.heap.size)
    (h : ∀ v' w', w'.ownsRow base e 2 v' (n + S.length) (spanC (A ++ S)) → w.grownBy w' v.ownBlock → K (a.put o.dst v') w') : o.wp P a w K Q := by
  obtain ⟨ao, cap, rfl, q1, q2, q3, q4⟩ := hu
  cases ao with
  | none =>
    have h0 : S.length = 0 := by
      rcases Nat.eq_zero_or_pos S.length with h | h
      · exact h
      · obtain ⟨b, off, e, _⟩ := q4 (by omega); cases e
    have hL : S = [] := List.eq_nil_of_length_eq_zero h0
    subst hL
    unfold Oper.wp execOp
    simp only [ho, resolve, invoke, builtin, Sem.run_bind, Sem.run_pure, Result.andThen_ok, List.map_toArray, List.map_cons, List.map_nil, hs, hx, List.length_nil, run_append_own_nil w base t o.type e i ht hi 2 v n _ hown cap]
    exact h v w (by simpa using hown) ⟨rfl, rfl, rfl, Nat.le_refl _, fun _ _ _ => rfl⟩
  | some ad =>
    refine wp_append_own w s x t ho base e i (.agg #[.int .u64 0, .int .u64 0]) 2 16 ht hi hz hsize hby rfl (by decide) v n _ hs hown ad S.length cap (spanC S) hx (spanC_length S) ?_ ?_ (by unfold maxLen; omega) (by omega) hbase ?_
    · intro j u hj
      have hjl : j < S.length * 2 := by
        have := (List.getElem?_eq_some_iff.1 hj).1
        rwa [spanC_length] at this
      obtain ⟨b, off, e, h1, h2⟩ := q4 (by omega)
      cases e
      have hh := h2 (j / 2) (by omega)
      have gg := spanC_get S (j / 2) (by omega)
      rw [Addr.add_lit]
      by_cases hp : j % 2 = 0
      · have e1 : j / 2 * 2 = j := by omega
        rw [e1] at hh gg
        rw [hh.1, ← gg.1]; exact hj
      · have e1 : j / 2 * 2 + 1 = j := by omega
        rw [Nat.add_assoc, e1] at hh
        rw [e1] at gg
        rw [hh.2, ← gg.2]; exact hj
    · intro u hu
      clear h
      induction S with
      | nil => simp [spanC] at hu
      | cons s t ih =>
        simp only [spanC, List.mem_cons] at hu
        rcases hu with rfl | rfl | hu
        · rfl
        · rfl
        · have : ∀ (T : List (Int × Int)), ∀ u ∈ spanC T, u.oneCell' = true := by
            intro T
            induction T with
            | nil => intro u hu; simp [spanC] at hu
            | cons a b ihb =>
              intro u hu
              simp only [spanC, List.mem_cons] at hu
              rcases hu with rfl | rfl | hu
              · rfl
              · rfl
              · exact ihb u hu
          exact this t u hu
    · intro v' w' h1 h2 _
      refine h v' w' ?_ h2
      rw [spanC_append]; exact h1
theorem wpList_append_ps {ops : Array Oper} {rest : List Oper} {o : Oper} {a : Act} {Q : Exit → Act → World → Prop} (hgd : Region.wanted o (yielded ops a.tmps) = true) (s x : Operand) (t : TypeId)
    (ho : o.op = .call { callee := .builtin .append, args := #[s, x], argTypes := #[t, t] })
    (base : Nat) (e : TypeId) (i : TypeInfo) (ht : P.underlying t = some (.slice e)) (hi : P.info? e = some i) (hz : i.zero = some (.agg #[.int .u64 0, .int .u64 0])) (hsize : i.size = 2) (hby : i.bytes = 16)
    (v : Value) (n : Nat) (A : List (Int × Int)) (hs : a.eval s = v) (hown : w.ownsRow base e 2 v n (spanC A))
    (vx : Value) (S : List (Int × Int)) (hx : a.eval x = vx) (hu : Ps w vx S) (h63 : n + S.length ≤ 1000000) (hbase : base ≤ w.heap.size)
    (h : ∀ v' w', w'.ownsRow base e 2 v' (n + S.length) (spanC (A ++ S)) → w.grownBy w' v.ownBlock → wpList P ops Q rest (a.put o.dst v') w') : wpList P ops Q (o :: rest) a w :=
  wpList_wanted hgd fun _ hK => wp_append_ps s x t ho base e i ht hi hz hsize hby v n A hs hown vx S hx hu h63 hbase fun v' w' h1 h2 => hK _ _ (h v' w' h1 h2)
theorem step_append_ps {ops : Array Oper} {o : Oper} {a : Act} {K : Act → World → Prop} {Q : Exit → Act → World → Prop} {E : Prop} (hgd : Region.wanted o (yielded ops a.tmps) = true) (s x : Operand) (t : TypeId)
    (ho : o.op = .call { callee := .builtin .append, args := #[s, x], argTypes := #[t, t] })
    (base : Nat) (e : TypeId) (i : TypeInfo) (ht : P.underlying t = some (.slice e)) (hi : P.info? e = some i) (hz : i.zero = some (.agg #[.int .u64 0, .int .u64 0])) (hsize : i.size = 2) (hby : i.bytes = 16)
    (v : Value) (n : Nat) (A : List (Int × Int)) (hs : a.eval s = v) (hown : w.ownsRow base e 2 v n (spanC A))
    (vx : Value) (S : List (Int × Int)) (hx : a.eval x = vx) (hu : Ps w vx S) (h63 : n + S.length ≤ 1000000) (hbase : base ≤ w.heap.size)
    (h : ∀ v' w', w'.ownsRow base e 2 v' (n + S.length) (spanC (A ++ S)) → w.grownBy w' v.ownBlock → K (a.put o.dst v') w') :
    if Region.wanted o (yielded ops a.tmps) = true then Oper.wp P o a w K Q else E := by
  rw [if_pos hgd]
  exact wp_append_ps s x t ho base e i ht hi hz hsize hby v n A hs hown vx S hx hu h63 hbase h
end
end Go.Proofs.Ytjaikcnfepbpgaa
