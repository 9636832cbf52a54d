/-
  Contracts by named answers; a slice of octets as a string. Conditions: each theorem's own premises.
-/
import Derived.Test.YthmiekinjfaflaaZB6
import Derived.Test.YthmiekinjfaflaaZNW
import Derived.Laws.IdiomStrings
import Derived.Lib.BufferRead
import Derived.Deep.DeepCutAuto
import Derived.Deep.RegionHeld3
import Derived.Deep.AppendSrc
namespace Go.Proofs.Ythmiekinjfaflaa
open Go.RowKit
/-- the octets as a string -/
def M.strOf (L : List Int) : ByteArray := ⟨(L.map fun n => UInt8.ofNat n.toNat).toArray⟩
end Go.Proofs.Ythmiekinjfaflaa
namespace Go.Proofs.Ythmiekinjfaflaa
open Go.RowKit
set_option maxRecDepth 100000 in
theorem box4 (w : World) (a b p q : M.Blk) (X : World) (hX : X = (((w.alloc (.cells #[.int .u64 (M.nu a.1), .int .u64 (M.nu a.2)] 41)).alloc (.cells #[.int .u64 (M.nu b.1), .int .u64 (M.nu b.2)] 41)).alloc (.cells #[.int .u64 (M.nu p.1), .int .u64 (M.nu p.2)] 41)).alloc (.cells #[.int .u64 (M.nu q.1), .int .u64 (M.nu q.2)] 41)) : Bx2 X w.heap.size a ∧ Bx2 X (w.heap.size + 1) b ∧ Bx2 X (w.heap.size + 1 + 1) p ∧ Bx2 X (w.heap.size + 1 + 1 + 1) q ∧ Below w.heap.size w X := by
  subst hX
  refine ⟨(((Bx2.new w a).alloc _).alloc _).alloc _, ?_, ?_, ?_, below_one (below_one (below_one (below_one (Below.refl _ _))))⟩
  · have := ((Bx2.new (w.alloc (.cells #[.int .u64 (M.nu a.1), .int .u64 (M.nu a.2)] 41)) b).alloc (.cells #[.int .u64 (M.nu p.1), .int .u64 (M.nu p.2)] 41)).alloc (.cells #[.int .u64 (M.nu q.1), .int .u64 (M.nu q.2)] 41)
    rwa [World.size_alloc] at this
  · have := (Bx2.new ((w.alloc (.cells #[.int .u64 (M.nu a.1), .int .u64 (M.nu a.2)] 41)).alloc (.cells #[.int .u64 (M.nu b.1), .int .u64 (M.nu b.2)] 41)) p).alloc (.cells #[.int .u64 (M.nu q.1), .int .u64 (M.nu q.2)] 41)
    rwa [World.size_alloc, World.size_alloc] at this
  · have := Bx2.new (((w.alloc (.cells #[.int .u64 (M.nu a.1), .int .u64 (M.nu a.2)] 41)).alloc (.cells #[.int .u64 (M.nu b.1), .int .u64 (M.nu b.2)] 41)).alloc (.cells #[.int .u64 (M.nu p.1), .int .u64 (M.nu p.2)] 41)) q
    rwa [World.size_alloc, World.size_alloc, World.size_alloc] at this
theorem goods (w W : World) (bs : List (Nat × M.Blk)) (h : ∀ p ∈ bs, Bx2 W p.1 p.2) (hB : Below w.heap.size w W) : ∃ G : World → Prop, Hid (∀ X X', G X → Below X.heap.size X X' → G X') ∧ Hid (∀ X, G X → ∀ p ∈ bs, Bx2 X p.1 p.2) ∧ Hid (∀ X, G X → Below w.heap.size w X) ∧ Hid (∀ X B o v, G X → W.heap.size ≤ B → G (X.setCell ⟨B, o, none⟩ v)) ∧ G W :=
  ⟨fun X => (∀ p ∈ bs, Bx2 X p.1 p.2) ∧ Below w.heap.size w X, fun _ _ h hb => ⟨fun p hp => (h.1 p hp).below hb, below_trans h.2 hb⟩, fun _ h => h.1, fun _ h => h.2, fun _ B _ _ hX hb => ⟨fun p hp => (hX.1 p hp).other (by have := (h p hp).lt; simp; omega) _, hX.2.setCell (by have := hB.size; simp; omega) _⟩, ⟨h, hB⟩⟩
end Go.Proofs.Ythmiekinjfaflaa
namespace Go.Proofs.Ythmiekinjfaflaa
open Go.RowKit
set_option maxRecDepth 100000 in
theorem box2ab (w : World) (a b : M.Blk) (X : World) (hX : X = (w.alloc (.cells #[.int .u64 (M.nu a.1), .int .u64 (M.nu a.2)] 41)).alloc (.cells #[.int .u64 (M.nu b.1), .int .u64 (M.nu b.2)] 41)) : Bx2 X w.heap.size a ∧ Bx2 X (w.heap.size + 1) b ∧ Below w.heap.size w X := by
  subst hX
  refine ⟨(Bx2.new w a).alloc _, ?_, below_one (below_one (Below.refl _ _))⟩
  have := Bx2.new (w.alloc (.cells #[.int .u64 (M.nu a.1), .int .u64 (M.nu a.2)] 41)) b
  rwa [World.size_alloc] at this
theorem ofV_octs (a : M.Blk) : M.ofV (M.octs a) = a := by
  rw [show M.ofV (M.octs a) = M.ofOct (M.fillF (M.octs a)) from if_pos (octs_length a), M.ofOct_octs]
end Go.Proofs.Ythmiekinjfaflaa
namespace Go.Proofs.Ythmiekinjfaflaa
open Go.RowKit
theorem Bs.nul (W : World) (ao : Option Addr) : Bs W (.slice ao 0 0) [] := ⟨ao, 0, rfl, by simp, by simp [maxLen], by simp, fun h => by omega⟩
theorem Bs.take {W : World} {b off cap n A : Nat} {L : List Int} (h : Bs W (.slice (some ⟨b, off, none⟩) n cap) L) (hA : A ≤ n) : Bs W (.slice (some ⟨b, off, none⟩) A cap) (L.take A) := by
  obtain ⟨ao, cap', e, q1, q2, q3, q4⟩ := h
  simp only [Value.slice.injEq] at e
  obtain ⟨rfl, rfl, rfl⟩ := e
  have hlen : (L.take A).length = A := by rw [List.length_take]; omega
  refine ⟨_, _, by rw [hlen], by omega, by omega, fun x hx => q3 x (List.mem_of_mem_take hx), fun h0 => ?_⟩
  obtain ⟨b', off', e, q5, q6⟩ := q4 h0
  cases e
  refine ⟨b, off, rfl, q5, fun j hj => ?_⟩
  rw [hlen] at hj
  rw [q6 j (by omega), List.getElem?_take, if_pos hj]
theorem Bs.of_own {W : World} {base : Nat} {e : TypeId} {v : Value} {n : Nat} {L : List Int} (h : W.ownsRow base e 1 v n (u8s L)) (hb : ∀ x ∈ L, 0 ≤ x ∧ x ≤ 255) : Bs W v L := by
  have hn : L.length = n := by have := h.1; simpa [u8s] using this
  rcases h.2 with ⟨h1, h2⟩ | ⟨g, cap, cur, h1, h2, h3, h4, h5, h6, h7⟩
  · exact ⟨none, 0, by rw [h1, hn, h2], by omega, by simp [maxLen], hb, fun h0 => by omega⟩
  · refine ⟨some ⟨g, 0, none⟩, cap, by rw [h1, hn], by omega, h5, hb, fun h0 => ⟨g, 0, rfl, (Array.getElem?_eq_some_iff.1 h3).1, fun j hj => ?_⟩⟩
    subst h1
    rw [Nat.zero_add, h.cellAt j (by omega)]
    unfold u8s
    rw [List.getElem?_map, List.getElem?_eq_getElem hj]
    simp
theorem setCells_nil8 (w : World) (b off : Nat) : w.setCells b off [] = w := rfl
/-- 'append(own, nil...)': the same -/
theorem run_append_own_nil8 {P : Program} (w : World) (base : Nat) (t ty e : TypeId) (i : TypeInfo) (ht : P.underlying t = some (.slice e)) (hi : P.info? e = some i) (size : Nat)
    (v : Value) (n : Nat) (xs : List Value) (hown : w.ownsRow base e size v n xs) (c : Nat) :
    (Builtin.append_ #[t, t] ty #[v, .slice none 0 c]).run P w = .ok v w := by
  rcases hown.2 with ⟨rfl, rfl⟩ | ⟨g, cap, cur, rfl, hbg, hg, hnc, hcm, hcs, htake⟩
  · simp [Builtin.append_, run_underlying ht, sizeOf, typeInfo, hi, Builtin.lenOf, Builtin.firstCells]
  · have := run_append_room_src (P := P) w t t ty e i ht hi g 0 n cap (.slice none 0 c) 0 [] (Src.ofNil w ht c) (by omega) (by simp) (by simp)
    rw [setCells_nil8] at this
    simpa using this
section
variable {P : Program} {w : World}
theorem wpList_wanted8 {ops : Array Oper} {rest : List Oper} {o : Oper} {a : Act} {Q : Exit → Act → World → Prop} (hg : Region.wanted o (yielded ops a.tmps) = true)
    (h : ∀ K : Act → World → Prop, (∀ a w, wpList P ops Q rest a w → K a w) → o.wp P a w K Q) : wpList P ops Q (o :: rest) a w :=
  wpList_step fun K hK => by rw [if_pos hg]; exact h K hK
theorem wpList_append_bs {ops : Array Oper} {rest : List Oper} {o : Oper} {a : Act} {Q : Exit → Act → World → Prop} (hgd : Region.wanted o (yielded ops a.tmps) = true) (s x : Operand) (t : TypeId)
    (ho : o.op = .call { callee := .builtin .append, args := #[s, x], argTypes := #[t, t] })
    (base : Nat) (e : TypeId) (i : TypeInfo) (ht : P.underlying t = some (.slice e)) (hi : P.info? e = some i) (hz : i.zero = some (.int .u8 0)) (hsize : i.size = 1) (hby : i.bytes = 1)
    (v : Value) (n : Nat) (A : List Int) (hs : a.eval s = v) (hown : w.ownsRow base e 1 v n (u8s A))
    (vx : Value) (L : List Int) (hx : a.eval x = vx) (hu : Bs w vx L) (h63 : n + L.length ≤ 1000000) (hbase : base ≤ w.heap.size)
    (h : ∀ v' w', w'.ownsRow base e 1 v' (n + L.length) (u8s (A ++ L)) → w.grownBy w' v.ownBlock → wpList P ops Q rest (a.put o.dst v') w') : wpList P ops Q (o :: rest) a w := by
  obtain ⟨ao, cap, rfl, q1, q2, q3, q4⟩ := hu
  cases ao with
  | none =>
    have h0 : L.length = 0 := by
      rcases Nat.eq_zero_or_pos L.length with h | h
      · exact h
      · obtain ⟨b, off, e, _⟩ := q4 (by omega); cases e
    have hL : L = [] := List.eq_nil_of_length_eq_zero h0
    subst hL
    refine wpList_wanted8 hgd fun _ hK => ?_
    unfold Oper.wp execOp
    simp only [ho, resolve, invoke, builtin, Sem.run_bind, Sem.run_pure, Result.andThen_ok, List.map_toArray, List.map_cons, List.map_nil, hs, hx, List.length_nil, run_append_own_nil8 w base t o.type e i ht hi 1 v n _ hown cap]
    exact hK _ _ (h v w (by simpa using hown) ⟨rfl, rfl, rfl, Nat.le_refl _, fun _ _ _ => rfl⟩)
  | some ad =>
    refine wpList_wanted8 hgd fun _ hK => wp_append_own w s x t ho base e i (.int .u8 0) 1 1 ht hi hz hsize hby rfl (by decide) v n _ hs hown ad L.length cap (u8s L) hx (by simp [u8s]) ?_ ?_ (by unfold maxLen; omega) (by omega) hbase ?_
    · intro j u hj
      have hjl : j < L.length := by
        have := (List.getElem?_eq_some_iff.1 hj).1
        simpa [u8s] using this
      obtain ⟨b, off, e, h1, h2⟩ := q4 (by omega)
      cases e
      have := h2 j hjl
      rw [u8s_get L j hjl] at hj
      cases hj
      rw [Addr.add_lit, this]
    · intro u hu
      obtain ⟨_, _, rfl⟩ := List.mem_map.1 hu
      rfl
    · intro v' w' h1 h2 _
      refine hK _ _ (h v' w' ?_ h2)
      unfold u8s at h1 ⊢
      rw [List.map_append]; exact h1
end
end Go.Proofs.Ythmiekinjfaflaa
namespace Go.Proofs.Ythmiekinjfaflaa
open Go.RowKit
theorem own_kept8 {w w' : World} {base : Nat} {e : TypeId} {size : Nat} {v : Value} {n : Nat} {xs : List Value} (h : w.ownsRow base e size v n xs) (hb : Below w.heap.size w w') : w'.ownsRow base e size v n xs :=
  h.kept (row := none) ⟨hb.os, hb.tape, hb.output, hb.size, fun k hk _ => hb.block k hk⟩ (by cases hv : v.ownBlock <;> simp)
end Go.Proofs.Ythmiekinjfaflaa
