/-
  'append' of octets to a slice that is full, and to one that the call owns, as a step of a region that draws; what Octets comes to. Conditions: each theorem's own premises.
-/
import Derived.Test.YtomhccendbnamaaDoorZC1
import Derived.Deep.RegionLaw
namespace Go.Proofs.YtomhccendbnamaaDoor
open Go.RowKit
theorem Bs.src {W : World} {v : Value} {L : List Int} (h : Bs W v L) (h0 : 0 < L.length) : ∃ b off cap, v = .slice (some ⟨b, off, none⟩) L.length cap ∧ L.length ≤ cap ∧ ∀ j u, (u8s L)[j]? = some u → W.cell? ((⟨b, off, none⟩ : Addr).add j) = some u := by
  obtain ⟨ao, cap, rfl, q1, q2, q3, q4⟩ := h
  obtain ⟨b, off, rfl, q5, q6⟩ := q4 (by omega)
  refine ⟨b, off, cap, rfl, q1, fun j u hj => ?_⟩
  have hjl : j < L.length := by
    have := (List.getElem?_eq_some_iff.1 hj).1
    rwa [u8s_length] at this
  rw [u8s_get L j hjl] at hj
  cases hj
  rw [Addr.add_lit]; exact q6 j hjl
theorem u8s_one (L : List Int) : ∀ u ∈ u8s L, u.oneCell' = true := by
  intro u hu
  obtain ⟨_, _, rfl⟩ := List.mem_map.1 hu
  rfl
theorem u8s_append (A L : List Int) : u8s (A ++ L) = u8s A ++ u8s L := List.map_append
set_option maxRecDepth 100000 in
/-- 'append' to a slice that is full: a new row -/
theorem run_append_full (w : World) (ty : TypeId) (v : Value) (A : List Int) (hA : Bs w v A) (hcap : ∀ ao n c, v = .slice ao n c → c = n) (hA0 : 0 < A.length) (vx : Value) (L : List Int) (hu : Bs w vx L) (hL : 0 < L.length) (h63 : A.length + L.length ≤ 1000000) :
    ∃ v' w', (Builtin.append_ #[74, 74] ty #[v, vx]).run Tryd.prog w = .ok v' w' ∧ w'.ownsRow w.heap.size 5 1 v' (A.length + L.length) (u8s (A ++ L)) ∧ Below w.heap.size w w' := by
  obtain ⟨i0, hi, hz0, hz1, hz2⟩ := info_parts Tryd.infoU8
  obtain ⟨b, off, cap, rfl, hc1, hA2⟩ := hA.src hA0
  obtain ⟨b2, off2, cap2, rfl, hc2, hL2⟩ := hu.src hL
  obtain rfl := hcap _ _ _ rfl
  have hr := run_append_grow (P := Tryd.prog) w 74 ty 5 i0 (.int .u8 0) Tryd.underlying74 hi hz0 ⟨b, off, none⟩ A.length A.length (u8s A) (by rw [hz1, u8s_length, Nat.mul_one]) hA2 ⟨b2, off2, none⟩ L.length cap2 (u8s L) (by rw [hz1, u8s_length, Nat.mul_one]) hL2 (by omega) (by omega) (growslice_fits (by omega) (by rw [hz2]; omega))
  refine ⟨_, _, hr, ⟨by rw [u8s_length, List.length_append, Nat.mul_one], .inr ⟨w.heap.size, _, _, rfl, Nat.le_refl _, heap_alloc_new w.drew _, grownCap_ge _ _ _ _, grownCap_le_maxLen _ _ _ _ (by unfold maxLen; omega), ?_, ?_⟩⟩, ⟨rfl, rfl, rfl, by simp, fun k hk => Below.heap_alloc w.drew _ k hk⟩⟩
  · have := grownCap_ge w (A.length + L.length) A.length 5
    simp only [Array.size_append, List.size_toArray, size_zeroCells, u8s_length, Value.cells]
    simp
    omega
  · simp only [Array.toList_append]
    rw [u8s_append, List.take_left' (by simp [u8s_length])]
section
variable {w : World}
set_option maxRecDepth 100000 in
theorem step_append_full {ops : Array Oper} {o : Oper} {a : Act} {K : Act → World → Prop} {Q : Exit → Act → World → Prop} {E : Prop} (hgd : Region.wanted o (yielded ops a.tmps) = true) (s x : Operand)
    (ho : o.op = .call { callee := .builtin .append, args := #[s, x], argTypes := #[74, 74] })
    (v : Value) (A : List Int) (hs : a.eval s = v) (hA : Bs w v A) (hcap : ∀ ao n c, v = .slice ao n c → c = n) (hA0 : 0 < A.length)
    (vx : Value) (L : List Int) (hx : a.eval x = vx) (hu : Bs w vx L) (hL : 0 < L.length) (h63 : A.length + L.length ≤ 1000000)
    (h : ∀ v' w', w'.ownsRow w.heap.size 5 1 v' (A.length + L.length) (u8s (A ++ L)) → Below w.heap.size w w' → K (a.put o.dst v') w') :
    if Region.wanted o (yielded ops a.tmps) = true then Oper.wp Tryd.prog o a w K Q else E := by
  rw [if_pos hgd]
  obtain ⟨v', w', hr, h2, h3⟩ := run_append_full w o.type v A hA hcap hA0 vx L hu hL h63
  unfold Oper.wp execOp
  simp only [ho, resolve, invoke, builtin, Sem.run_bind, Sem.run_pure, Result.andThen_ok, List.map_toArray, List.map_cons, List.map_nil, hs, hx, hr]
  exact h v' w' h2 h3
set_option maxRecDepth 100000 in
theorem step_append_own8 {ops : Array Oper} {o : Oper} {a : Act} {K : Act → World → Prop} {Q : Exit → Act → World → Prop} {E : Prop} (hgd : Region.wanted o (yielded ops a.tmps) = true) (s x : Operand)
    (ho : o.op = .call { callee := .builtin .append, args := #[s, x], argTypes := #[74, 74] })
    (base : Nat) (v : Value) (n : Nat) (A : List Int) (hs : a.eval s = v) (hown : w.ownsRow base 5 1 v n (u8s A))
    (vx : Value) (L : List Int) (hx : a.eval x = vx) (hu : Bs w vx L) (hL : 0 < L.length) (h63 : n + L.length ≤ 1000000) (hbase : base ≤ w.heap.size)
    (h : ∀ v' w', w'.ownsRow base 5 1 v' (n + L.length) (u8s (A ++ L)) → w.grownBy w' v.ownBlock → K (a.put o.dst v') w') :
    if Region.wanted o (yielded ops a.tmps) = true then Oper.wp Tryd.prog o a w K Q else E := by
  rw [if_pos hgd]
  obtain ⟨i0, hi, hz0, hz1, hz2⟩ := info_parts Tryd.infoU8
  obtain ⟨b2, off2, cap2, rfl, hc2, hL2⟩ := hu.src hL
  refine wp_append_own w s x 74 ho base 5 i0 (.int .u8 0) 1 1 Tryd.underlying74 hi hz0 hz1 hz2 rfl (by decide) v n _ hs hown ⟨b2, off2, none⟩ L.length cap2 (u8s L) hx (by rw [u8s_length, Nat.mul_one]) hL2 (u8s_one L) (by unfold maxLen; omega) (by omega) hbase fun v' w' h1 h2 _ => h v' w' ?_ h2
  rw [u8s_append]; exact h1
end
theorem own_lower8 {w : World} {b b' : Nat} {e : TypeId} {size : Nat} {v : Value} {n : Nat} {xs : List Value} (h : w.ownsRow b e size v n xs) (hb : b' ≤ b) : w.ownsRow b' e size v n xs := by
  refine ⟨h.1, ?_⟩
  rcases h.2 with hn | ⟨g, cap, cur, h1, h2, rest⟩
  · exact .inl hn
  · exact .inr ⟨g, cap, cur, h1, Nat.le_trans hb h2, rest⟩
theorem le_own {w : World} {b c : Nat} {e : TypeId} {size : Nat} {v : Value} {n : Nat} {xs : List Value} (h : w.ownsRow b e size v n xs) (q : Nat) (hq : v.ownBlock = some q) (hb : c ≤ b) : c ≤ q := Nat.le_trans hb (h.lt q hq).1
end Go.Proofs.YtomhccendbnamaaDoor
namespace Go.Proofs.YtomhccendbnamaaDoor
open Go.RowKit
end Go.Proofs.YtomhccendbnamaaDoor
