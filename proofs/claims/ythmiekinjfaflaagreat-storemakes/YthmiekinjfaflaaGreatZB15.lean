/-
  Contracts by named answers; a slice of octets as a string. Conditions: each theorem's own premises.
-/
import Derived.Test.YthmiekinjfaflaaGreatZB6
import Derived.Test.YthmiekinjfaflaaGreatZNW
import Derived.Laws.IdiomStrings
import Derived.Lib.BufferRead
import Derived.Deep.DeepCutAuto
import Derived.Deep.RegionHeld3
import Derived.Deep.AppendSrc
import Derived.Laws.StructEq
import Derived.Deep.RegionLaw
import Derived.ProofKit
import Derived.OpenShut
namespace Go.Proofs.YthmiekinjfaflaaGreat
open Go.RowKit
/-- the octets as a string -/
def M.strOf (L : List Int) : ByteArray := ⟨(L.map fun n => UInt8.ofNat n.toNat).toArray⟩
end Go.Proofs.YthmiekinjfaflaaGreat
namespace Go.Proofs.YthmiekinjfaflaaGreat
open Go.RowKit
set_option maxRecDepth 100000 in
theorem box4 (w : World) (a b p q : M.Blk) (X : World) (hX : X = (((w.alloc (.cells #[.int .u64 (M.nu a.1), .int .u64 (M.nu a.2)] 25)).alloc (.cells #[.int .u64 (M.nu b.1), .int .u64 (M.nu b.2)] 25)).alloc (.cells #[.int .u64 (M.nu p.1), .int .u64 (M.nu p.2)] 25)).alloc (.cells #[.int .u64 (M.nu q.1), .int .u64 (M.nu q.2)] 25)) : Bx2 X w.heap.size a ∧ Bx2 X (w.heap.size + 1) b ∧ Bx2 X (w.heap.size + 1 + 1) p ∧ Bx2 X (w.heap.size + 1 + 1 + 1) q ∧ Below w.heap.size w X := by
  subst hX
  refine ⟨(((Bx2.new w a).alloc _).alloc _).alloc _, ?_, ?_, ?_, below_one (below_one (below_one (below_one (Below.refl _ _))))⟩
  · have := ((Bx2.new (w.alloc (.cells #[.int .u64 (M.nu a.1), .int .u64 (M.nu a.2)] 25)) b).alloc (.cells #[.int .u64 (M.nu p.1), .int .u64 (M.nu p.2)] 25)).alloc (.cells #[.int .u64 (M.nu q.1), .int .u64 (M.nu q.2)] 25)
    rwa [World.size_alloc] at this
  · have := (Bx2.new ((w.alloc (.cells #[.int .u64 (M.nu a.1), .int .u64 (M.nu a.2)] 25)).alloc (.cells #[.int .u64 (M.nu b.1), .int .u64 (M.nu b.2)] 25)) p).alloc (.cells #[.int .u64 (M.nu q.1), .int .u64 (M.nu q.2)] 25)
    rwa [World.size_alloc, World.size_alloc] at this
  · have := Bx2.new (((w.alloc (.cells #[.int .u64 (M.nu a.1), .int .u64 (M.nu a.2)] 25)).alloc (.cells #[.int .u64 (M.nu b.1), .int .u64 (M.nu b.2)] 25)).alloc (.cells #[.int .u64 (M.nu p.1), .int .u64 (M.nu p.2)] 25)) q
    rwa [World.size_alloc, World.size_alloc, World.size_alloc] at this
theorem goods (w W : World) (bs : List (Nat × M.Blk)) (h : ∀ p ∈ bs, Bx2 W p.1 p.2) (hB : Below w.heap.size w W) : ∃ G : World → Prop, Hid (∀ X X', G X → Below X.heap.size X X' → G X') ∧ Hid (∀ X, G X → ∀ p ∈ bs, Bx2 X p.1 p.2) ∧ Hid (∀ X, G X → Below w.heap.size w X) ∧ Hid (∀ X B o v, G X → W.heap.size ≤ B → G (X.setCell ⟨B, o, none⟩ v)) ∧ G W :=
  ⟨fun X => (∀ p ∈ bs, Bx2 X p.1 p.2) ∧ Below w.heap.size w X, fun _ _ h hb => ⟨fun p hp => (h.1 p hp).below hb, below_trans h.2 hb⟩, fun _ h => h.1, fun _ h => h.2, fun _ B _ _ hX hb => ⟨fun p hp => (hX.1 p hp).other (by have := (h p hp).lt; simp; omega) _, hX.2.setCell (by have := hB.size; simp; omega) _⟩, ⟨h, hB⟩⟩
end Go.Proofs.YthmiekinjfaflaaGreat
namespace Go.Proofs.YthmiekinjfaflaaGreat
open Go.RowKit
set_option maxRecDepth 100000 in
theorem box2ab (w : World) (a b : M.Blk) (X : World) (hX : X = (w.alloc (.cells #[.int .u64 (M.nu a.1), .int .u64 (M.nu a.2)] 25)).alloc (.cells #[.int .u64 (M.nu b.1), .int .u64 (M.nu b.2)] 25)) : Bx2 X w.heap.size a ∧ Bx2 X (w.heap.size + 1) b ∧ Below w.heap.size w X := by
  subst hX
  refine ⟨(Bx2.new w a).alloc _, ?_, below_one (below_one (Below.refl _ _))⟩
  have := Bx2.new (w.alloc (.cells #[.int .u64 (M.nu a.1), .int .u64 (M.nu a.2)] 25)) b
  rwa [World.size_alloc] at this
theorem ofV_octs (a : M.Blk) : M.ofV (M.octs a) = a := by
  rw [show M.ofV (M.octs a) = M.ofOct (M.fillF (M.octs a)) from if_pos (octs_length a), M.ofOct_octs]
end Go.Proofs.YthmiekinjfaflaaGreat
namespace Go.Proofs.YthmiekinjfaflaaGreat
open Go.RowKit
theorem Bs.nul (W : World) (ao : Option Addr) : Bs W (.slice ao 0 0) [] := ⟨ao, 0, rfl, by simp, by simp [maxLen], by simp, fun h => by omega⟩
theorem Bs.take {W : World} {b off cap n A : Nat} {L : List Int} (h : Bs W (.slice (some ⟨b, off, none⟩) n cap) L) (hA : A ≤ n) : Bs W (.slice (some ⟨b, off, none⟩) A cap) (L.take A) := by
  obtain ⟨ao, cap', e, q1, q2, q3, q4⟩ := h
  simp only [Value.slice.injEq] at e
  obtain ⟨rfl, rfl, rfl⟩ := e
  have hlen : (L.take A).length = A := by rw [List.length_take]; omega
  refine ⟨_, _, by rw [hlen], by omega, by omega, fun x hx => q3 x (List.mem_of_mem_take hx), fun h0 => ?_⟩
  obtain ⟨b', off', e, q5, q6⟩ := q4 h0
  cases e
  refine ⟨b, off, rfl, q5, fun j hj => ?_⟩
  rw [hlen] at hj
  rw [q6 j (by omega), List.getElem?_take, if_pos hj]
theorem Bs.of_own {W : World} {base : Nat} {e : TypeId} {v : Value} {n : Nat} {L : List Int} (h : W.ownsRow base e 1 v n (u8s L)) (hb : ∀ x ∈ L, 0 ≤ x ∧ x ≤ 255) : Bs W v L := by
  have hn : L.length = n := by have := h.1; simpa [u8s] using this
  rcases h.2 with ⟨h1, h2⟩ | ⟨g, cap, cur, h1, h2, h3, h4, h5, h6, h7⟩
  · exact ⟨none, 0, by rw [h1, hn, h2], by omega, by simp [maxLen], hb, fun h0 => by omega⟩
  · refine ⟨some ⟨g, 0, none⟩, cap, by rw [h1, hn], by omega, h5, hb, fun h0 => ⟨g, 0, rfl, (Array.getElem?_eq_some_iff.1 h3).1, fun j hj => ?_⟩⟩
    subst h1
    rw [Nat.zero_add, h.cellAt j (by omega)]
    unfold u8s
    rw [List.getElem?_map, List.getElem?_eq_getElem hj]
    simp
theorem setCells_nil8 (w : World) (b off : Nat) : w.setCells b off [] = w := rfl
/-- 'append(own, nil...)': the same -/
theorem run_append_own_nil8 {P : Program} (w : World) (base : Nat) (t ty e : TypeId) (i : TypeInfo) (ht : P.underlying t = some (.slice e)) (hi : P.info? e = some i) (size : Nat)
    (v : Value) (n : Nat) (xs : List Value) (hown : w.ownsRow base e size v n xs) (c : Nat) :
    (Builtin.append_ #[t, t] ty #[v, .slice none 0 c]).run P w = .ok v w := by
  rcases hown.2 with ⟨rfl, rfl⟩ | ⟨g, cap, cur, rfl, hbg, hg, hnc, hcm, hcs, htake⟩
  · simp [Builtin.append_, run_underlying ht, sizeOf, typeInfo, hi, Builtin.lenOf, Builtin.firstCells]
  · have := run_append_room_src (P := P) w t t ty e i ht hi g 0 n cap (.slice none 0 c) 0 [] (Src.ofNil w ht c) (by omega) (by simp) (by simp)
    rw [setCells_nil8] at this
    simpa using this
section
variable {P : Program} {w : World}
theorem wpList_wanted8 {ops : Array Oper} {rest : List Oper} {o : Oper} {a : Act} {Q : Exit → Act → World → Prop} (hg : Region.wanted o (yielded ops a.tmps) = true)
    (h : ∀ K : Act → World → Prop, (∀ a w, wpList P ops Q rest a w → K a w) → o.wp P a w K Q) : wpList P ops Q (o :: rest) a w :=
  wpList_step fun K hK => by rw [if_pos hg]; exact h K hK
theorem wpList_append_bs {ops : Array Oper} {rest : List Oper} {o : Oper} {a : Act} {Q : Exit → Act → World → Prop} (hgd : Region.wanted o (yielded ops a.tmps) = true) (s x : Operand) (t : TypeId)
    (ho : o.op = .call { callee := .builtin .append, args := #[s, x], argTypes := #[t, t] })
    (base : Nat) (e : TypeId) (i : TypeInfo) (ht : P.underlying t = some (.slice e)) (hi : P.info? e = some i) (hz : i.zero = some (.int .u8 0)) (hsize : i.size = 1) (hby : i.bytes = 1)
    (v : Value) (n : Nat) (A : List Int) (hs : a.eval s = v) (hown : w.ownsRow base e 1 v n (u8s A))
    (vx : Value) (L : List Int) (hx : a.eval x = vx) (hu : Bs w vx L) (h63 : n + L.length ≤ 1000000) (hbase : base ≤ w.heap.size)
    (h : ∀ v' w', w'.ownsRow base e 1 v' (n + L.length) (u8s (A ++ L)) → w.grownBy w' v.ownBlock → wpList P ops Q rest (a.put o.dst v') w') : wpList P ops Q (o :: rest) a w := by
  obtain ⟨ao, cap, rfl, q1, q2, q3, q4⟩ := hu
  cases ao with
  | none =>
    have h0 : L.length = 0 := by
      rcases Nat.eq_zero_or_pos L.length with h | h
      · exact h
      · obtain ⟨b, off, e, _⟩ := q4 (by omega); cases e
    have hL : L = [] := List.eq_nil_of_length_eq_zero h0
    subst hL
    refine wpList_wanted8 hgd fun _ hK => ?_
    unfold Oper.wp execOp
    simp only [ho, resolve, invoke, builtin, Sem.run_bind, Sem.run_pure, Result.andThen_ok, List.map_toArray, List.map_cons, List.map_nil, hs, hx, List.length_nil, run_append_own_nil8 w base t o.type e i ht hi 1 v n _ hown cap]
    exact hK _ _ (h v w (by simpa using hown) ⟨rfl, rfl, rfl, Nat.le_refl _, fun _ _ _ => rfl⟩)
  | some ad =>
    refine wpList_wanted8 hgd fun _ hK => wp_append_own w s x t ho base e i (.int .u8 0) 1 1 ht hi hz hsize hby rfl (by decide) v n _ hs hown ad L.length cap (u8s L) hx (by simp [u8s]) ?_ ?_ (by unfold maxLen; omega) (by omega) hbase ?_
    · intro j u hj
      have hjl : j < L.length := by
        have := (List.getElem?_eq_some_iff.1 hj).1
        simpa [u8s] using this
      obtain ⟨b, off, e, h1, h2⟩ := q4 (by omega)
      cases e
      have := h2 j hjl
      rw [u8s_get L j hjl] at hj
      cases hj
      rw [Addr.add_lit, this]
    · intro u hu
      obtain ⟨_, _, rfl⟩ := List.mem_map.1 hu
      rfl
    · intro v' w' h1 h2 _
      refine hK _ _ (h v' w' ?_ h2)
      unfold u8s at h1 ⊢
      rw [List.map_append]; exact h1
end
end Go.Proofs.YthmiekinjfaflaaGreat
namespace Go.Proofs.YthmiekinjfaflaaGreat
open Go.RowKit
theorem own_kept8 {w w' : World} {base : Nat} {e : TypeId} {size : Nat} {v : Value} {n : Nat} {xs : List Value} (h : w.ownsRow base e size v n xs) (hb : Below w.heap.size w w') : w'.ownsRow base e size v n xs :=
  h.kept (row := none) ⟨hb.os, hb.tape, hb.output, hb.size, fun k hk _ => hb.block k hk⟩ (by cases hv : v.ownBlock <;> simp)
end Go.Proofs.YthmiekinjfaflaaGreat
namespace Go.Proofs.YthmiekinjfaflaaGreat
open Go.RowKit
/-- what is wrapped, as the program holds it -/
def seaV (s : M.Sea) : Value := .agg #[.int .u64 (M.nu s.1.1), .int .u64 (M.nu s.1.2), .int .u64 (M.nu s.2.1), .int .u64 (M.nu s.2.2)]
/-- a block of four cells -/
def Bx4 (W : World) (B : Nat) (s : M.Sea) : Prop := W.heap[B]? = some (.cells #[.int .u64 (M.nu s.1.1), .int .u64 (M.nu s.1.2), .int .u64 (M.nu s.2.1), .int .u64 (M.nu s.2.2)] 27 (0, 0))
theorem Bx4.lt {W : World} {B : Nat} {s : M.Sea} (h : Bx4 W B s) : B < W.heap.size := (Array.getElem?_eq_some_iff.1 h).1
theorem Bx4.cells {W : World} {B : Nat} {s : M.Sea} (h : Bx4 W B s) : W.cell? ⟨B, 0, none⟩ = some (.int .u64 (M.nu s.1.1)) ∧ W.cell? ⟨B, 1, none⟩ = some (.int .u64 (M.nu s.1.2)) ∧ W.cell? ⟨B, 2, none⟩ = some (.int .u64 (M.nu s.2.1)) ∧ W.cell? ⟨B, 3, none⟩ = some (.int .u64 (M.nu s.2.2)) := by
  have h' : W.heap[B]? = _ := h
  refine ⟨?_, ?_, ?_, ?_⟩ <;> simp [World.cell?, h']
theorem Bx4.frozen {W : World} {B : Nat} {s : M.Sea} (h : Bx4 W B s) : W.frozen? ⟨B, 0, none⟩ = false ∧ W.frozen? ⟨B, 1, none⟩ = false ∧ W.frozen? ⟨B, 2, none⟩ = false ∧ W.frozen? ⟨B, 3, none⟩ = false := by
  have h' : W.heap[B]? = _ := h
  refine ⟨?_, ?_, ?_, ?_⟩ <;> simp [World.frozen?, h']
set_option maxRecDepth 100000 in
theorem Bx4.new (W : World) (s : M.Sea) : Bx4 (W.alloc (.cells #[.int .u64 (M.nu s.1.1), .int .u64 (M.nu s.1.2), .int .u64 (M.nu s.2.1), .int .u64 (M.nu s.2.2)] 27)) W.heap.size s := by
  show (W.heap.push _)[W.heap.size]? = _
  simp
theorem Bx4.alloc {W : World} {B : Nat} {s : M.Sea} (h : Bx4 W B s) (o : Obj) : Bx4 (W.alloc o) B s := (Below.heap_alloc _ _ _ h.lt).trans h
theorem Bx4.below {W W' : World} {B : Nat} {s : M.Sea} (h : Bx4 W B s) (hb : Below W.heap.size W W') : Bx4 W' B s := (hb.block B h.lt).trans h
theorem Bx4.other {W : World} {B : Nat} {s : M.Sea} (h : Bx4 W B s) {p : Addr} (hp : B ≠ p.block) (v : Value) : Bx4 (W.setCell p v) B s := (Below.heap_setCell _ _ _ _ hp).trans h
set_option maxRecDepth 100000 in
theorem eqBd (d : Nat) (x y p q : Int) (w : World) : (Op.equalIn (d + 2) 25 (.agg #[.int .u64 x, .int .u64 y]) (.agg #[.int .u64 p, .int .u64 q])).run Tryz.prog w = .ok (x == p && y == q) w := by
  obtain ⟨i0, hi, hz0, hz1, hz2⟩ := info_parts Tryz.infoU64b
  rw [run_equalIn_array w (d + 1) (n := 2) (e := 23) _ _ Tryz.underlying25 hi, Tryz.cellsU64b]
  simp [List.range, List.range.loop, Op.eqItems, part, go_sem]
  by_cases h1 : x = p <;> by_cases h2 : y = q <;> simp [h1, h2]
set_option maxRecDepth 100000 in
theorem Tryz.fieldsS : (Tryz.prog.fieldsOf 27) = #[⟨"C", 25, 0, false, "", "", 0⟩, ⟨"T", 25, 2, false, "", "", 16⟩] := by kernel_rfl
set_option maxRecDepth 100000 in
theorem Tryz.heldS : Tryz.prog.stoodInHeld 27 = false := by kernel_rfl
set_option maxRecDepth 100000 in
theorem Tryz.structS : Tryz.prog.underlying 27 = some (.struct (Tryz.prog.fieldsOf 27)) := by kernel_rfl
set_option maxRecDepth 100000 in
/-- '==' of two sealed -/
theorem eqS (a b c d x y z u : Int) (w : World) : (Op.equalIn 10000 27 (.agg #[.int .u64 a, .int .u64 b, .int .u64 c, .int .u64 d]) (.agg #[.int .u64 x, .int .u64 y, .int .u64 z, .int .u64 u])).run Tryz.prog w = .ok ((a == x && b == y) && (c == z && d == u)) w := by
  rw [run_equalIn_struct w 9999 _ _ _ Tryz.structS Tryz.heldS, Tryz.fieldsS]
  simp [Op.eqFields, part, go_sem, eqBd 9997]
  by_cases h1 : a = x <;> by_cases h2 : b = y <;> by_cases h3 : c = z <;> by_cases h4 : d = u <;> simp [h1, h2, h3, h4]
theorem sea_beq (a b : M.Sea) : ((M.nu a.1.1 == M.nu b.1.1 && M.nu a.1.2 == M.nu b.1.2) && (M.nu a.2.1 == M.nu b.2.1 && M.nu a.2.2 == M.nu b.2.2)) = decide (a = b) := by
  rw [blk_beq, blk_beq]
  obtain ⟨p, q⟩ := a
  obtain ⟨r, t⟩ := b
  rw [Bool.eq_iff_iff]
  simp
end Go.Proofs.YthmiekinjfaflaaGreat
namespace Go.Proofs.YthmiekinjfaflaaGreat
open Go.RowKit
theorem Bx4.set {W : World} {B : Nat} {s : M.Sea} (h : Bx4 W B s) (c : M.Sea) : Bx4 ((((W.setCell ⟨B, 0, none⟩ (.int .u64 (M.nu c.1.1))).setCell ⟨B, 1, none⟩ (.int .u64 (M.nu c.1.2))).setCell ⟨B, 2, none⟩ (.int .u64 (M.nu c.2.1))).setCell ⟨B, 3, none⟩ (.int .u64 (M.nu c.2.2))) B c := by
  have h' : W.heap[B]? = _ := h
  unfold Bx4
  simp only [World.setCell, Array.getElem?_modify, if_true, h', Option.map_some]
  rfl
theorem below_set4 {w W : World} {B : Nat} (h : Below w.heap.size w W) (hB : w.heap.size ≤ B) (u v x y : Value) : Below w.heap.size w ((((W.setCell ⟨B, 0, none⟩ u).setCell ⟨B, 1, none⟩ v).setCell ⟨B, 2, none⟩ x).setCell ⟨B, 3, none⟩ y) := (((h.setCell hB _).setCell hB _).setCell hB _).setCell hB _
theorem goods4 (w W : World) (bs : List (Nat × M.Blk)) (ss : List (Nat × M.Sea)) (h : ∀ p ∈ bs, Bx2 W p.1 p.2) (h4 : ∀ p ∈ ss, Bx4 W p.1 p.2) (hB : Below w.heap.size w W) : ∃ G : World → Prop, Hid (∀ X X', G X → Below X.heap.size X X' → G X') ∧ Hid (∀ X, G X → ∀ p ∈ bs, Bx2 X p.1 p.2) ∧ Hid (∀ X, G X → ∀ p ∈ ss, Bx4 X p.1 p.2) ∧ Hid (∀ X, G X → Below w.heap.size w X) ∧ Hid (∀ X B o v, G X → W.heap.size ≤ B → G (X.setCell ⟨B, o, none⟩ v)) ∧ G W :=
  ⟨fun X => (∀ p ∈ bs, Bx2 X p.1 p.2) ∧ (∀ p ∈ ss, Bx4 X p.1 p.2) ∧ Below w.heap.size w X, fun _ _ h hb => ⟨fun p hp => (h.1 p hp).below hb, fun p hp => (h.2.1 p hp).below hb, below_trans h.2.2 hb⟩, fun _ h => h.1, fun _ h => h.2.1, fun _ h => h.2.2, fun _ B _ _ hX hb => ⟨fun p hp => (hX.1 p hp).other (by have := (h p hp).lt; simp; omega) _, fun p hp => (hX.2.1 p hp).other (by have := (h4 p hp).lt; simp; omega) _, hX.2.2.setCell (by have := hB.size; simp; omega) _⟩, ⟨h, h4, hB⟩⟩
end Go.Proofs.YthmiekinjfaflaaGreat
namespace Go.Proofs.YthmiekinjfaflaaGreat
open Go.RowKit
end Go.Proofs.YthmiekinjfaflaaGreat
namespace Go.Proofs.YthmiekinjfaflaaGreat
open Go.RowKit
end Go.Proofs.YthmiekinjfaflaaGreat
namespace Go.Proofs.YthmiekinjfaflaaGreat
open Go.RowKit
theorem Bs.src {W : World} {v : Value} {L : List Int} (h : Bs W v L) (h0 : 0 < L.length) : ∃ b off cap, v = .slice (some ⟨b, off, none⟩) L.length cap ∧ L.length ≤ cap ∧ ∀ j u, (u8s L)[j]? = some u → W.cell? ((⟨b, off, none⟩ : Addr).add j) = some u := by
  obtain ⟨ao, cap, rfl, q1, q2, q3, q4⟩ := h
  obtain ⟨b, off, rfl, q5, q6⟩ := q4 (by omega)
  refine ⟨b, off, cap, rfl, q1, fun j u hj => ?_⟩
  have hjl : j < L.length := by
    have := (List.getElem?_eq_some_iff.1 hj).1
    rwa [u8s_length] at this
  rw [u8s_get L j hjl] at hj
  cases hj
  rw [Addr.add_lit]; exact q6 j hjl
theorem u8s_one (L : List Int) : ∀ u ∈ u8s L, u.oneCell' = true := by
  intro u hu
  obtain ⟨_, _, rfl⟩ := List.mem_map.1 hu
  rfl
theorem u8s_append (A L : List Int) : u8s (A ++ L) = u8s A ++ u8s L := List.map_append
theorem own_lower8 {w : World} {b b' : Nat} {e : TypeId} {size : Nat} {v : Value} {n : Nat} {xs : List Value} (h : w.ownsRow b e size v n xs) (hb : b' ≤ b) : w.ownsRow b' e size v n xs := by
  refine ⟨h.1, ?_⟩
  rcases h.2 with hn | ⟨g, cap, cur, h1, h2, rest⟩
  · exact .inl hn
  · exact .inr ⟨g, cap, cur, h1, Nat.le_trans hb h2, rest⟩
theorem le_own {w : World} {b c : Nat} {e : TypeId} {size : Nat} {v : Value} {n : Nat} {xs : List Value} (h : w.ownsRow b e size v n xs) (q : Nat) (hq : v.ownBlock = some q) (hb : c ≤ b) : c ≤ q := Nat.le_trans hb (h.lt q hq).1
end Go.Proofs.YthmiekinjfaflaaGreat
namespace Go.Proofs.YthmiekinjfaflaaGreat
open Go.RowKit
end Go.Proofs.YthmiekinjfaflaaGreat
namespace Go.Proofs.YthmiekinjfaflaaGreat
open Go.ChangeShapes Go.WideShapes Go.ChangeAt Go.RowKit
set_option maxRecDepth 100000 in
theorem Tryz.cellsBlk : Tryz.prog.cellsOf 25 = 2 := by kernel_rfl
set_option maxRecDepth 100000 in
theorem Tryz.cellsU8 : Tryz.prog.cellsOf 5 = 1 := by kernel_rfl
set_option maxRecDepth 100000 in
theorem okWide_array {P : Program} {w : World} {r : Reach} {base : Nat} {t : TypeId} {v : Value} {n : Nat} {e : TypeId} (ht : P.underlying t = some (.array n e)) (h : Value.okWide P w r base t v) : ∃ cs, v = .agg cs ∧ cs.size = P.cellsOf t := by
  simp only [Value.okWide, ht] at h
  obtain ⟨cs, h1, h2, _⟩ := h
  exact ⟨cs, h1, h2⟩
set_option maxRecDepth 100000 in
theorem two_of_size {cs : Array Value} (h : cs.size = 2) : ∃ u v, cs = #[u, v] := by
  obtain ⟨l⟩ := cs
  match l, h with
  | [u, v], _ => exact ⟨u, v, rfl⟩
set_option maxRecDepth 100000 in
theorem blk_of_trod {H : Type} {enc : TypeId × Value → H} {W : World} {v : Value} {d : DataW H} {p : List MemPlace} {base : Nat} (hok : Value.okWide Tryz.prog W .any base 25 v)
    (h : DataW.Trod enc Tryz.prog W 0 (fun _ => true) true 25 v d p) : ∃ b : M.Blk, v = blkV b := by
  obtain ⟨cs, rfl, hs⟩ := okWide_array Tryz.underlying25 hok
  rw [Tryz.cellsBlk] at hs
  obtain ⟨u, v, rfl⟩ := two_of_size hs
  obtain ⟨fuel, hf⟩ := h
  obtain ⟨xs, m, _, _, _, hl, hg⟩ := DataW.trod_array Tryz.underlying25 hf
  have h0 := hg 0 (by decide)
  have h1 := hg 1 (by decide)
  rw [Tryz.cellsU64b] at h0 h1
  have e0 : xs[0]? = some xs[0] := List.getElem?_eq_getElem (by omega)
  have e1 : xs[1]? = some xs[1] := List.getElem?_eq_getElem (by omega)
  rw [e0] at h0
  rw [e1] at h1
  obtain ⟨x, hx, _, hw⟩ := DataW.trod_int Tryz.underlying23 h0
  obtain ⟨y, hy, _, hw2⟩ := DataW.trod_int Tryz.underlying23 h1
  obtain ⟨b0, b1⟩ := bounds_u64 hw
  obtain ⟨b2, b3⟩ := bounds_u64 hw2
  have eu : u = .int .u64 x := by simpa [Value.cells] using hx
  have ev : v = .int .u64 y := by simpa [Value.cells] using hy
  refine ⟨(BitVec.ofInt 64 x, BitVec.ofInt 64 y), ?_⟩
  unfold blkV
  rw [M.nu_of x b0 b1, M.nu_of y b2 b3, eu, ev]
end Go.Proofs.YthmiekinjfaflaaGreat
namespace Go.Proofs.YthmiekinjfaflaaGreat
open Go.RowKit
set_option maxRecDepth 100000 in
theorem class_of4 (w W : World) (bs : List (Nat × M.Blk)) (ss : List (Nat × M.Sea)) (h : ∀ p ∈ bs, Bx2 W p.1 p.2) (h4 : ∀ p ∈ ss, Bx4 W p.1 p.2) (hB : Below w.heap.size w W) : ∃ G : World → Prop, Hid (∀ X X', G X → Below X.heap.size X X' → G X') ∧ (∀ s : Cls G, ∀ p ∈ bs, Bx2 s.W p.1 p.2) ∧ (∀ s : Cls G, ∀ p ∈ ss, Bx4 s.W p.1 p.2) ∧ Hid (∀ s : Cls G, Below w.heap.size w s.W) ∧ Hid (G { W with drawn := W.drawn + 1 }) :=
  ⟨fun X => (∀ p ∈ bs, Bx2 X p.1 p.2) ∧ (∀ p ∈ ss, Bx4 X p.1 p.2) ∧ Below w.heap.size w X, fun _ _ h hb => ⟨fun p hp => (h.1 p hp).below hb, fun p hp => (h.2.1 p hp).below hb, below_trans h.2.2 hb⟩, fun s => s.ok.1, fun s => s.ok.2.1, fun s => s.ok.2.2, ⟨h, h4, below_d1 hB⟩⟩
set_option maxRecDepth 100000 in
theorem Cls.next {G : World → Prop} (hG : ∀ X X', G X → Below X.heap.size X X' → G X') (s : Cls G) : G { s.W with drawn := s.W.drawn + 1 } := hG _ _ s.ok (below_d1 (Below.refl _ _))
end Go.Proofs.YthmiekinjfaflaaGreat
namespace Go.Proofs.YthmiekinjfaflaaGreat
open Go.ChangeShapes Go.WideShapes Go.ChangeAt Go.RowKit
set_option maxRecDepth 100000 in
theorem Tryz.cellsSea : Tryz.prog.cellsOf 27 = 4 := by kernel_rfl
set_option maxRecDepth 100000 in
theorem okWide_struct {P : Program} {w : World} {r : Reach} {base : Nat} {t : TypeId} {v : Value} {fs : Array Field} (ht : P.underlying t = some (.struct fs)) (h : Value.okWide P w r base t v) : ∃ cs, v = .agg cs ∧ cs.size = P.cellsOf t := by
  simp only [Value.okWide, ht] at h
  obtain ⟨cs, h1, h2, _⟩ := h
  exact ⟨cs, h1, h2⟩
set_option maxRecDepth 100000 in
theorem four_of_size {cs : Array Value} (h : cs.size = 4) : ∃ u v x y, cs = #[u, v, x, y] := by
  obtain ⟨l⟩ := cs
  match l, h with
  | [u, v, x, y], _ => exact ⟨u, v, x, y, rfl⟩
set_option maxRecDepth 100000 in
theorem blk_of_cells {H : Type} {enc : TypeId × Value → H} {W : World} {u v : Value} {fuel : Nat} {d : DataW H × List MemPlace}
    (h : DataW.trod enc Tryz.prog W 0 (fun _ => true) true fuel 25 [u, v] = some d) : ∃ b : M.Blk, u = .int .u64 (M.nu b.1) ∧ v = .int .u64 (M.nu b.2) := by
  obtain ⟨xs, m, _, _, _, hl, hg⟩ := DataW.trod_array Tryz.underlying25 h
  have h0 := hg 0 (by decide)
  have h1 := hg 1 (by decide)
  rw [Tryz.cellsU64b] at h0 h1
  have e0 : xs[0]? = some xs[0] := List.getElem?_eq_getElem (by omega)
  have e1 : xs[1]? = some xs[1] := List.getElem?_eq_getElem (by omega)
  rw [e0] at h0
  rw [e1] at h1
  obtain ⟨x, hx, _, hw⟩ := DataW.trod_int Tryz.underlying23 h0
  obtain ⟨y, hy, _, hw2⟩ := DataW.trod_int Tryz.underlying23 h1
  obtain ⟨b0, b1⟩ := bounds_u64 hw
  obtain ⟨b2, b3⟩ := bounds_u64 hw2
  have eu : u = .int .u64 x := by simpa [Value.cells] using hx
  have ev : v = .int .u64 y := by simpa [Value.cells] using hy
  refine ⟨(BitVec.ofInt 64 x, BitVec.ofInt 64 y), ?_, ?_⟩
  · rw [M.nu_of x b0 b1, eu]
  · rw [M.nu_of y b2 b3, ev]
set_option maxRecDepth 100000 in
theorem sea_of_trod {H : Type} {enc : TypeId × Value → H} {W : World} {v : Value} {d : DataW H} {p : List MemPlace} {base : Nat} (hok : Value.okWide Tryz.prog W .any base 27 v)
    (h : DataW.Trod enc Tryz.prog W 0 (fun _ => true) true 27 v d p) : ∃ s : M.Sea, v = seaV s := by
  obtain ⟨cs, rfl, hs⟩ := okWide_struct Tryz.underlying27 hok
  rw [Tryz.cellsSea] at hs
  obtain ⟨a, b, x, y, rfl⟩ := four_of_size hs
  obtain ⟨fuel, hf⟩ := h
  obtain ⟨y0, y1, n, _, _, h0, h1⟩ := trod_struct2 Tryz.underlying27 hf
  rw [Tryz.cellsBlk] at h0 h1
  obtain ⟨c, e1, e2⟩ := blk_of_cells h0
  obtain ⟨t, e3, e4⟩ := blk_of_cells h1
  refine ⟨(c, t), ?_⟩
  unfold seaV
  rw [e1, e2, e3, e4]
end Go.Proofs.YthmiekinjfaflaaGreat
