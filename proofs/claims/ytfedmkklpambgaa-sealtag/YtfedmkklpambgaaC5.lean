/-
  'append' of octets to a slice that is full, and to one that the call owns, as a step of a region that draws; what Octets comes to. Conditions: each theorem's own premises.
-/
import Derived.Test.YtfedmkklpambgaaC4
import Derived.Deep.RegionLaw
namespace Go.Proofs.Ytfedmkklpambgaa
open Go.RowKit
theorem Bs.src {W : World} {v : Value} {L : List Int} (h : Bs W v L) (h0 : 0 < L.length) : ∃ b off cap, v = .slice (some ⟨b, off, none⟩) L.length cap ∧ L.length ≤ cap ∧ ∀ j u, (u8s L)[j]? = some u → W.cell? ((⟨b, off, none⟩ : Addr).add j) = some u := by
  obtain ⟨ao, cap, rfl, q1, q2, q3, q4⟩ := h
  obtain ⟨b, off, rfl, q5, q6⟩ := q4 (by omega)
  refine ⟨b, off, cap, rfl, q1, fun j u hj => ?_⟩
  have hjl : j < L.length := by
    have := (List.getElem?_eq_some_iff.1 hj).1
    rwa [u8s_length] at this
  rw [u8s_get L j hjl] at hj
  cases hj
  rw [Addr.add_lit]; exact q6 j hjl
theorem u8s_one (L : List Int) : ∀ u ∈ u8s L, u.oneCell' = true := by
  intro u hu
  obtain ⟨_, _, rfl⟩ := List.mem_map.1 hu
  rfl
theorem u8s_append (A L : List Int) : u8s (A ++ L) = u8s A ++ u8s L := List.map_append
/-- 'append' to a slice that is full: a new row -/
theorem run_append_full (w : World) (ty : TypeId) (v : Value) (A : List Int) (hA : Bs w v A) (hcap : ∀ ao n c, v = .slice ao n c → c = n) (hA0 : 0 < A.length) (vx : Value) (L : List Int) (hu : Bs w vx L) (hL : 0 < L.length) (h63 : A.length + L.length ≤ 1000000) :
    ∃ v' w', (Builtin.append_ #[27, 27] ty #[v, vx]).run Try.prog w = .ok v' w' ∧ w'.ownsRow w.heap.size 5 1 v' (A.length + L.length) (u8s (A ++ L)) ∧ Below w.heap.size w w' := by
  obtain ⟨i0, hi, hz0, hz1, hz2⟩ := info_parts Try.infoU8
  obtain ⟨b, off, cap, rfl, hc1, hA2⟩ := hA.src hA0
  obtain ⟨b2, off2, cap2, rfl, hc2, hL2⟩ := hu.src hL
  obtain rfl := hcap _ _ _ rfl
  have hr := run_append_grow (P := Try.prog) w 27 ty 5 i0 (.int .u8 0) Try.underlying27 hi hz0 ⟨b, off, none⟩ A.length A.length (u8s A) (by rw [hz1, u8s_length, Nat.mul_one]) hA2 ⟨b2, off2, none⟩ L.length cap2 (u8s L) (by rw [hz1, u8s_length, Nat.mul_one]) hL2 (by omega) (by omega) (growslice_fits (by omega) (by rw [hz2]; omega))
  refine ⟨_, _, hr, ⟨by rw [u8s_length, List.length_append, Nat.mul_one], .inr ⟨w.heap.size, _, _, rfl, Nat.le_refl _, heap_alloc_new w.drew _, grownCap_ge _ _ _ _, grownCap_le_maxLen _ _ _ _ (by unfold maxLen; omega), ?_, ?_⟩⟩, ⟨rfl, rfl, rfl, by simp, fun k hk => Below.heap_alloc w.drew _ k hk⟩⟩
  · have := grownCap_ge w (A.length + L.length) A.length 5
    simp only [Array.size_append, List.size_toArray, size_zeroCells, u8s_length, Value.cells]
    simp
    omega
  · simp only [Array.toList_append]
    rw [u8s_append, List.take_left' (by simp [u8s_length])]
section
variable {w : World}
theorem step_append_full {ops : Array Oper} {o : Oper} {a : Act} {K : Act → World → Prop} {Q : Exit → Act → World → Prop} {E : Prop} (hgd : Region.wanted o (yielded ops a.tmps) = true) (s x : Operand)
    (ho : o.op = .call { callee := .builtin .append, args := #[s, x], argTypes := #[27, 27] })
    (v : Value) (A : List Int) (hs : a.eval s = v) (hA : Bs w v A) (hcap : ∀ ao n c, v = .slice ao n c → c = n) (hA0 : 0 < A.length)
    (vx : Value) (L : List Int) (hx : a.eval x = vx) (hu : Bs w vx L) (hL : 0 < L.length) (h63 : A.length + L.length ≤ 1000000)
    (h : ∀ v' w', w'.ownsRow w.heap.size 5 1 v' (A.length + L.length) (u8s (A ++ L)) → Below w.heap.size w w' → K (a.put o.dst v') w') :
    if Region.wanted o (yielded ops a.tmps) = true then Oper.wp Try.prog o a w K Q else E := by
  rw [if_pos hgd]
  obtain ⟨v', w', hr, h2, h3⟩ := run_append_full w o.type v A hA hcap hA0 vx L hu hL h63
  unfold Oper.wp execOp
  simp only [ho, resolve, invoke, builtin, Sem.run_bind, Sem.run_pure, Result.andThen_ok, List.map_toArray, List.map_cons, List.map_nil, hs, hx, hr]
  exact h v' w' h2 h3
theorem step_append_own8 {ops : Array Oper} {o : Oper} {a : Act} {K : Act → World → Prop} {Q : Exit → Act → World → Prop} {E : Prop} (hgd : Region.wanted o (yielded ops a.tmps) = true) (s x : Operand)
    (ho : o.op = .call { callee := .builtin .append, args := #[s, x], argTypes := #[27, 27] })
    (base : Nat) (v : Value) (n : Nat) (A : List Int) (hs : a.eval s = v) (hown : w.ownsRow base 5 1 v n (u8s A))
    (vx : Value) (L : List Int) (hx : a.eval x = vx) (hu : Bs w vx L) (hL : 0 < L.length) (h63 : n + L.length ≤ 1000000) (hbase : base ≤ w.heap.size)
    (h : ∀ v' w', w'.ownsRow base 5 1 v' (n + L.length) (u8s (A ++ L)) → w.grownBy w' v.ownBlock → K (a.put o.dst v') w') :
    if Region.wanted o (yielded ops a.tmps) = true then Oper.wp Try.prog o a w K Q else E := by
  rw [if_pos hgd]
  obtain ⟨i0, hi, hz0, hz1, hz2⟩ := info_parts Try.infoU8
  obtain ⟨b2, off2, cap2, rfl, hc2, hL2⟩ := hu.src hL
  refine wp_append_own w s x 27 ho base 5 i0 (.int .u8 0) 1 1 Try.underlying27 hi hz0 hz1 hz2 rfl (by decide) v n _ hs hown ⟨b2, off2, none⟩ L.length cap2 (u8s L) hx (by rw [u8s_length, Nat.mul_one]) hL2 (u8s_one L) (by unfold maxLen; omega) (by omega) hbase fun v' w' h1 h2 _ => h v' w' ?_ h2
  rw [u8s_append]; exact h1
end
theorem own_lower8 {w : World} {b b' : Nat} {e : TypeId} {size : Nat} {v : Value} {n : Nat} {xs : List Value} (h : w.ownsRow b e size v n xs) (hb : b' ≤ b) : w.ownsRow b' e size v n xs := by
  refine ⟨h.1, ?_⟩
  rcases h.2 with hn | ⟨g, cap, cur, h1, h2, rest⟩
  · exact .inl hn
  · exact .inr ⟨g, cap, cur, h1, Nat.le_trans hb h2, rest⟩
set_option maxRecDepth 100000 in
set_option maxHeartbeats 4000000 in
theorem soctets_any (s : M.Sea) (w : World) :
    Calls Try.prog 17 #[(.agg #[.int .u64 (M.nu s.1.1), .int .u64 (M.nu s.1.2), .int .u64 (M.nu s.2.1), .int .u64 (M.nu s.2.2)])] w fun e w' => ∃ v, e = .returned v ∧ w'.ownsRow w.heap.size 5 1 v 32 (u8s (M.soct s)) ∧ Below w.heap.size w w' := by
  obtain ⟨Xs0, hB0⟩ : Bx4 (w.alloc (.cells #[.int .u64 (M.nu s.1.1), .int .u64 (M.nu s.1.2), .int .u64 (M.nu s.2.1), .int .u64 (M.nu s.2.2)] 26)) w.heap.size s ∧ Below w.heap.size w (w.alloc (.cells #[.int .u64 (M.nu s.1.1), .int .u64 (M.nu s.1.2), .int .u64 (M.nu s.2.1), .int .u64 (M.nu s.2.2)] 26)) := by
    refine ⟨?_, below_one (Below.refl _ _)⟩
    · have := Bx4.new w s
      exact this
  go_enter Try.func17, Try.ntmps17
  go_wp2
  generalize hWd : w.alloc (.cells #[.int .u64 (M.nu s.1.1), .int .u64 (M.nu s.1.2), .int .u64 (M.nu s.2.1), .int .u64 (M.nu s.2.2)] 26) = W at *
  have lW : w.heap.size ≤ W.heap.size := hB0.size
  obtain ⟨G, HG, HF, HS, HL, HSC, gW⟩ := goods4 w W [] [(w.heap.size, s)] (by simp) (by simp; exact Xs0) hB0
  have cs := (HS.out W gW (w.heap.size, s) (by simp)).cells
  have gD := HG.out W W.drew gW (below_d1 (Below.refl _ _))
  clear Xs0 hWd
  go_region_law (first | (refine step_append_full rfl _ _ rfl _ (M.octs s.1) rfl (Bs.of_box hg1) (fun _ _ _ e => by cases e; rfl) (by rw [octs_length]; decide) _ (M.octs s.2) rfl (Bs.of_box hg2) (by rw [octs_length]; decide) (by rw [octs_length, octs_length]; decide) ?_; intro v3 w3 hown3 hb3) | (go_simp; go_at_call_of 27 (Value.agg #[.int .u64 (M.nu s.1.1), .int .u64 (M.nu s.1.2)]); refine (octets_at _ _).mono ?_; rintro r w1 ⟨g1, rfl, hg1, _, hb⟩; (first | (have hg2 := hg2.below hb) | skip); have G1 := HG.out _ w1 (by first | exact G2 | exact gD) hb; have ls1 := hb.size; clear hb; have cs1 := (HS.out w1 G1 (w.heap.size, s) (by simp)).cells) | (go_simp; go_at_call_of 27 (Value.agg #[.int .u64 (M.nu s.2.1), .int .u64 (M.nu s.2.2)]); refine (octets_at _ _).mono ?_; rintro r w2 ⟨g2, rfl, hg2, _, hb⟩; (first | (have hg1 := hg1.below hb) | skip); have G2 := HG.out _ w2 (by first | exact G1 | exact gD) hb; have ls2 := hb.size; clear hb; have cs2 := (HS.out w2 G2 (w.heap.size, s) (by simp)).cells))
  all_goals go_wp2
  all_goals go_ret
  all_goals exact ⟨_, rfl, own_lower8 (by rw [octs_length, octs_length] at hown3; exact hown3) (by first | exact (HL.out w2 G2).size | exact (HL.out w1 G1).size), by first | exact below_trans (HL.out w2 G2) hb3 | exact below_trans (HL.out w1 G1) hb3⟩
theorem le_own {w : World} {b c : Nat} {e : TypeId} {size : Nat} {v : Value} {n : Nat} {xs : List Value} (h : w.ownsRow b e size v n xs) (q : Nat) (hq : v.ownBlock = some q) (hb : c ≤ b) : c ≤ q := Nat.le_trans hb (h.lt q hq).1
set_option maxRecDepth 100000 in
set_option maxHeartbeats 4000000 in
theorem rsoctets_any (s : M.Sea) (w : World) :
    Calls Try.prog 18 #[(.agg #[.int .u64 (M.nu s.1.1), .int .u64 (M.nu s.1.2), .int .u64 (M.nu s.2.1), .int .u64 (M.nu s.2.2)])] w fun e w' => ∃ v, e = .returned v ∧ w'.ownsRow w.heap.size 5 1 v 32 (u8s (M.soct s)) ∧ Below w.heap.size w w' := by
  obtain ⟨Xs0, hB0⟩ : Bx4 (w.alloc (.cells #[.int .u64 (M.nu s.1.1), .int .u64 (M.nu s.1.2), .int .u64 (M.nu s.2.1), .int .u64 (M.nu s.2.2)] 26)) w.heap.size s ∧ Below w.heap.size w (w.alloc (.cells #[.int .u64 (M.nu s.1.1), .int .u64 (M.nu s.1.2), .int .u64 (M.nu s.2.1), .int .u64 (M.nu s.2.2)] 26)) := by
    refine ⟨?_, below_one (Below.refl _ _)⟩
    · have := Bx4.new w s
      exact this
  go_enter Try.func18, Try.ntmps18
  go_wp2
  generalize hWd : w.alloc (.cells #[.int .u64 (M.nu s.1.1), .int .u64 (M.nu s.1.2), .int .u64 (M.nu s.2.1), .int .u64 (M.nu s.2.2)] 26) = W at *
  have lW : w.heap.size ≤ W.heap.size := hB0.size
  obtain ⟨G, HG, HF, HS, HL, HSC, gW⟩ := goods4 w W [] [(w.heap.size, s)] (by simp) (by simp; exact Xs0) hB0
  have cs := (HS.out W gW (w.heap.size, s) (by simp)).cells
  have gD := HG.out W W.drew gW (below_d1 (Below.refl _ _))
  clear Xs0 hWd
  go_region_law (first | (refine step_append_own8 rfl _ _ rfl w.heap.size _ 16 (M.octs s.1) rfl (own_lower8 hg1 (by first | omega | (simp at *; omega))) _ (M.octs s.2) rfl (Bs.of_own hg2 (octs_fits _)) (by rw [octs_length]; decide) (by rw [octs_length]; decide) (by first | omega | (simp at *; omega)) ?_; intro v3 w3 hown3 hb3) | (go_simp; go_at_call_of 29 (Value.agg #[.int .u64 (M.nu s.1.1), .int .u64 (M.nu s.1.2)]); refine (roctets_at _ _).mono ?_; rintro r w1 ⟨g1, rfl, hg1, hb⟩; (first | (have hg2 := own_kept8 hg2 hb) | skip); have G1 := HG.out _ w1 (by first | exact G2 | exact gD) hb; have ls1 := hb.size; clear hb; have cs1 := (HS.out w1 G1 (w.heap.size, s) (by simp)).cells) | (go_simp; go_at_call_of 29 (Value.agg #[.int .u64 (M.nu s.2.1), .int .u64 (M.nu s.2.2)]); refine (roctets_at _ _).mono ?_; rintro r w2 ⟨g2, rfl, hg2, hb⟩; (first | (have hg1 := own_kept8 hg1 hb) | skip); have G2 := HG.out _ w2 (by first | exact G1 | exact gD) hb; have ls2 := hb.size; clear hb; have cs2 := (HS.out w2 G2 (w.heap.size, s) (by simp)).cells))
  all_goals go_wp2
  all_goals go_ret
  all_goals exact ⟨_, rfl, by rw [octs_length] at hown3; exact hown3, by first | exact (HL.out w2 G2).grown hb3 (HL.out w2 G2).size (fun q hq => le_own hg1 q hq lW) | exact (HL.out w1 G1).grown hb3 (HL.out w1 G1).size (fun q hq => le_own hg1 q hq lW)⟩
end Go.Proofs.Ytfedmkklpambgaa
