/-
  The iterator over the spans between the leaves of a set: all of them, in order. Conditions: the slice holds a rising list, none above the last.
-/
import Derived.Test.YthmiekinjfaflaaGreatZLM
import Derived.Test.YthmiekinjfaflaaGreatZS1
import Derived.RangeFuncNested
import Derived.RangeFuncBox
import Derived.RangeFuncLeaves
import Derived.Shelf.Abstract
import Derived.WalkKit
import Derived.OwnWalkIn
import Derived.TacticsInMore
import Derived.LoopNIn
import Derived.LoopIn
import Derived.Deep.RegionLaw
namespace Go.Proofs.YthmiekinjfaflaaGreat
open Go.RowKit Go.Shelf
attribute [local go_sem] Oper.semAt_some
/-- a span as the program hands it on -/
abbrev spanV (x : Int × Int) : Value := .agg #[.int .u64 x.1, .int .u64 x.2]
/-- what a round keeps: what lay below n₀, and the box of the last leaf -/
def Kps (n₀ Br : Nat) (A B : World) : Prop := Below n₀ A B ∧ ∀ v, Boxed A Br 23 v → Boxed B Br 23 v
theorem Kps.trans {n₀ Br : Nat} {A B C : World} (h1 : Kps n₀ Br A B) (h2 : Kps n₀ Br B C) : Kps n₀ Br A C := ⟨h1.1.trans h2.1, fun v h => h2.2 v (h1.2 v h)⟩
theorem Kps.refl (n₀ Br : Nat) (A : World) : Kps n₀ Br A A := ⟨Below.refl _ _, fun _ h => h⟩
end Go.Proofs.YthmiekinjfaflaaGreat
namespace Go.Proofs.YthmiekinjfaflaaGreat
open Go.RowKit Go.Shelf
attribute [local go_sem] Oper.semAt_some
/-- the cells of a list of spans -/
def spanC : List (Int × Int) → List Value
  | [] => []
  | s :: t => .int .u64 s.1 :: .int .u64 s.2 :: spanC t
theorem spanC_append : ∀ (A B : List (Int × Int)), spanC (A ++ B) = spanC A ++ spanC B
  | [], _ => rfl
  | s :: t, B => by simp [spanC, spanC_append t B]
theorem spanC_length : ∀ (A : List (Int × Int)), (spanC A).length = A.length * 2
  | [] => rfl
  | s :: t => by simp [spanC, spanC_length t]; omega
/-- a block of two cells -/
def Boxed2 (W : World) (B : Nat) (t : TypeId) (u v : Value) : Prop := W.heap[B]? = some (.cells #[u, v] t (0, 0))
theorem Boxed2.lt {W : World} {B : Nat} {t : TypeId} {u v : Value} (h : Boxed2 W B t u v) : B < W.heap.size := (Array.getElem?_eq_some_iff.1 h).1
theorem Boxed2.cell {W : World} {B : Nat} {t : TypeId} {u v : Value} (h : Boxed2 W B t u v) : W.cell? ⟨B, 0, none⟩ = some u ∧ W.cell? ⟨B, 1, none⟩ = some v := by
  constructor <;> simp [World.cell?, show W.heap[B]? = _ from h]
theorem Boxed2.new (W : World) (t : TypeId) (u v : Value) : Boxed2 (W.alloc (.cells #[u, v] t)) W.heap.size t u v := World.alloc_heap_new W _
theorem Boxed2.kept {W W' : World} {row : Option Nat} {B : Nat} {t : TypeId} {u v : Value} (h : Boxed2 W B t u v) (hg : W.grownBy W' row) (hne : some B ≠ row) : Boxed2 W' B t u v := (hg.block B h.lt hne).trans h
theorem cell_two_new (W : World) (u v : Value) (t : TypeId) : ∀ j x, [u, v][j]? = some x → (W.alloc (.cells #[u, v] t)).cell? ((⟨W.heap.size, 0, none⟩ : Addr).add j) = some x := by
  intro j x hj
  rw [Addr.add_lit, Nat.zero_add, cell_at]
  simpa using hj
theorem gaps_length_le : ∀ (L : List Int) (least last : Int), (M.gapsL least last L).length ≤ L.length + 1
  | [], least, last => by unfold M.gapsL; split <;> simp
  | i :: t, least, last => by
    have := gaps_length_le t (i + 1) last
    unfold M.gapsL
    split <;> simp <;> omega
end Go.Proofs.YthmiekinjfaflaaGreat
namespace Go.Proofs.YthmiekinjfaflaaGreat
open Go.RowKit
/-- the slice value v holds the spans S -/
def Ps (W : World) (v : Value) (S : List (Int × Int)) : Prop :=
  ∃ ao cap, v = .slice ao S.length cap ∧ S.length ≤ cap ∧ cap ≤ maxLen ∧ (∀ x ∈ S, 0 ≤ x.1 ∧ x.1 ≤ 18446744073709551615 ∧ 0 ≤ x.2 ∧ x.2 ≤ 18446744073709551615) ∧
    (0 < cap → ∃ b off, ao = some ⟨b, off, none⟩ ∧ b < W.heap.size ∧ ∀ j, j < S.length → W.cell? ⟨b, off + j * 2, none⟩ = some (.int .u64 (S[j]?.getD (0, 0)).1) ∧ W.cell? ⟨b, off + j * 2 + 1, none⟩ = some (.int .u64 (S[j]?.getD (0, 0)).2))
theorem Ps.below {W W' : World} {v : Value} {S : List (Int × Int)} (h : Ps W v S) (hb : Below W.heap.size W W') : Ps W' v S := by
  obtain ⟨ao, cap, h1, h2, h3, h4, h5⟩ := h
  refine ⟨ao, cap, h1, h2, h3, h4, fun h0 => ?_⟩
  obtain ⟨b, off, h6, h7, h8⟩ := h5 h0
  exact ⟨b, off, h6, Nat.lt_of_lt_of_le h7 hb.size, fun j hj => ⟨(hb.cell (p := ⟨b, off + j * 2, none⟩) h7).trans (h8 j hj).1, (hb.cell (p := ⟨b, off + j * 2 + 1, none⟩) h7).trans (h8 j hj).2⟩⟩
theorem Ps.alloc {W : World} {v : Value} {S : List (Int × Int)} (h : Ps W v S) (o : Obj) : Ps (W.alloc o) v S := h.below ((Below.refl _ _).alloc (Nat.le_refl _) o)
theorem Ps.drew {W : World} {v : Value} {S : List (Int × Int)} (h : Ps W v S) : Ps W.drew v S := h.below (Below.refl _ _).drew
theorem spanC_get : ∀ (S : List (Int × Int)) (j : Nat), j < S.length → (spanC S)[j * 2]? = some (.int .u64 (S[j]?.getD (0, 0)).1) ∧ (spanC S)[j * 2 + 1]? = some (.int .u64 (S[j]?.getD (0, 0)).2)
  | [], j, h => by simp at h
  | s :: t, 0, _ => by simp [spanC]
  | s :: t, j + 1, h => by
    have := spanC_get t j (by simpa using h)
    rw [show (j + 1) * 2 = j * 2 + 1 + 1 by omega]
    simpa [spanC] using this
theorem Ps.of_own {W : World} {base : Nat} {e : TypeId} {v : Value} {n : Nat} {S : List (Int × Int)} (h : W.ownsRow base e 2 v n (spanC S)) (hb : ∀ x ∈ S, 0 ≤ x.1 ∧ x.1 ≤ 18446744073709551615 ∧ 0 ≤ x.2 ∧ x.2 ≤ 18446744073709551615) : Ps W v S := by
  have hn : S.length = n := by have := h.1; rw [spanC_length] at this; omega
  rcases h.2 with ⟨h1, h2⟩ | ⟨g, cap, cur, h1, h2, h3, h4, h5, h6, h7⟩
  · exact ⟨none, 0, by rw [h1, hn, h2], by omega, by simp [maxLen], hb, fun h0 => by omega⟩
  · refine ⟨some ⟨g, 0, none⟩, cap, by rw [h1, hn], by omega, h5, hb, fun h0 => ⟨g, 0, rfl, (Array.getElem?_eq_some_iff.1 h3).1, fun j hj => ?_⟩⟩
    subst h1
    have hc := h.cells (g := g) rfl
    obtain ⟨g1, g2⟩ := spanC_get S j hj
    have c1 := hc _ _ g1
    have c2 := hc _ _ g2
    rw [Addr.add_lit] at c1 c2
    exact ⟨c1, by rw [Nat.add_assoc]; exact c2⟩
theorem M.live_set : M.setB 2 [1] = true := by decide +kernel
theorem M.live_gaps : M.gapsL 0 (M.p2 2 - 1) [1] = [(0, 0), (2, 3)] := by decide +kernel
theorem Ps.lit (W : World) (e : TypeId) : Ps (W.alloc (.cells #[.int .u64 0, .int .u64 0, .int .u64 2, .int .u64 3] e)) (.slice (some ⟨W.heap.size, 0, none⟩) 2 2) [(0, 0), (2, 3)] := by
  refine ⟨_, _, rfl, by simp, by unfold maxLen; omega, by simp, fun _ => ⟨W.heap.size, 0, rfl, by simp, fun j hj => ?_⟩⟩
  rw [cell_at, cell_at]
  match j, hj with
  | 0, _ => exact ⟨rfl, rfl⟩
  | 1, _ => exact ⟨rfl, rfl⟩
end Go.Proofs.YthmiekinjfaflaaGreat
namespace Go.Proofs.YthmiekinjfaflaaGreat.M
theorem withL_length {L : List Int} {i : Int} (h : L.Pairwise (· < ·)) (hi : has L i = false) : (withL L i).length = L.length + 1 := by
  rw [← with_parts h hi]
  simp only [List.length_append, List.length_take, List.length_drop, List.length_cons, List.length_nil]
  have := pos_le L i
  omega
theorem has_iff {L : List Int} {i : Int} : has L i = true ↔ i ∈ L := by unfold has; simp
theorem hasnt_iff {L : List Int} {i : Int} : has L i = false ↔ i ∉ L := by unfold has; simp
theorem isB_of {h i : Int} (hi : isB h i = true) : 1 ≤ h ∧ h ≤ 32 ∧ i < p2 h := by
  unfold isB at hi
  simp only [Bool.and_eq_true, decide_eq_true_eq] at hi
  exact ⟨(ht_of hi.1).1, (ht_of hi.1).2, hi.2⟩
theorem find_mk {h : Int} {L : List Int} {i : Int} (hs : setB h L = true) (hi : isB h i = true) : fndE h L i = 0 := by unfold fndE; rw [hs, hi]; rfl
theorem with_mk {h : Int} {L : List Int} {i : Int} (hs : setB h L = true) (hi : isB h i = true) (hh : has L i = false) (hl : L.length < 1024) : withE h L i = 0 := by
  unfold withE; rw [if_pos (find_mk hs hi), hh]
  simp; omega
theorem out_mk {h : Int} {L : List Int} {i : Int} (hs : setB h L = true) (hi : isB h i = true) (hh : has L i = true) : outE h L i = 0 := by
  unfold outE; rw [if_pos (find_mk hs hi), hh]; rfl
/-- what is put in: a set, with it in it; taken out again, the set as it was -/
theorem with_facts {h : Int} {L : List Int} {i : Int} (h0 : 0 ≤ i) (hE : withE h L i = 0) (hl : L.length ≤ 60) :
    setB h (withL L i) = true ∧ (withL L i).length = L.length + 1 ∧ has (withL L i) i = true ∧ fndE h (withL L i) i = 0 ∧ hasV h (withL L i) i = true ∧ outE h (withL L i) i = 0 ∧ outLf (withL L i) i = L ∧ ∀ x ∈ withL L i, 0 ≤ x ∧ x ≤ 18446744073709551615 := by
  obtain ⟨f0, f1, f2, f3, f4, f5, f6⟩ := withE_zero hE
  obtain ⟨s1, s2, s3, s4, s5, s6⟩ := set_of f4
  have hb := (isB_of f6).2.2
  have hp := p2_32 s2
  have hlen := withL_length s5 f1
  have hset : setB h (withL L i) = true := by
    refine set_mk s1 s2 (by omega) (withL_rising s5) fun x hx => ?_
    rcases withL_mem.1 hx with hx | rfl
    · exact s6 x hx
    · exact ⟨h0, hb⟩
  have hhas : has (withL L i) i = true := has_iff.2 (withL_mem.2 (.inr rfl))
  have hf := find_mk hset f6
  refine ⟨hset, hlen, hhas, hf, by unfold hasV; rw [hf, hhas]; rfl, out_mk hset f6 hhas, ?_, ?_⟩
  · refine rising_extL ((withL_rising s5).filter _) s5 fun x => ?_
    unfold outLf
    rw [List.mem_filter, withL_mem]
    simp only [decide_eq_true_eq]
    constructor
    · rintro ⟨h1 | h1, h2⟩
      · exact h1
      · exact absurd h1 h2
    · intro hx
      refine ⟨.inl hx, ?_⟩
      rintro rfl
      exact hasnt_iff.1 f1 hx
  · intro x hx
    have := (set_of hset).2.2.2.2.2 x hx
    omega
theorem with_two {h : Int} {L : List Int} {i k : Int} (h0 : 0 ≤ i) (hE : withE h L i = 0) (hK : withE h L k = 0) (hik : i ≠ k) (hl : L.length ≤ 60) : withE h (withL L i) k = 0 ∧ withL (withL L i) k = withL (withL L k) i := by
  obtain ⟨hset, hlen, _⟩ := with_facts h0 hE hl
  obtain ⟨f0, f1, f2, f3, f4, f5, f6⟩ := withE_zero hE
  obtain ⟨g0, g1, g2, g3, g4, g5, g6⟩ := withE_zero hK
  have s5 := (set_of f4).2.2.2.2.1
  refine ⟨with_mk hset g6 ?_ (by omega), ?_⟩
  · rw [hasnt_iff, withL_mem]
    rintro (h1 | h1)
    · exact hasnt_iff.1 g1 h1
    · exact hik h1.symm
  · refine rising_extL (withL_rising (withL_rising s5)) (withL_rising (withL_rising s5)) fun x => ?_
    simp only [withL_mem]
    constructor
    · rintro ((h1 | h1) | h1)
      · exact .inl (.inl h1)
      · exact .inr h1
      · exact .inl (.inr h1)
    · rintro ((h1 | h1) | h1)
      · exact .inl (.inl h1)
      · exact .inr h1
      · exact .inl (.inr h1)
end Go.Proofs.YthmiekinjfaflaaGreat.M
namespace Go.Proofs.YthmiekinjfaflaaGreat
open Go.RowKit
theorem drop_span {S : List (Int × Int)} (k : Nat) (hk : k < S.length) : S.drop k = S[k]?.getD (0, 0) :: S.drop (k + 1) := by
  rw [List.drop_eq_getElem_cons hk]; simp [hk]
theorem span_mem {S : List (Int × Int)} {P : Int × Int → Prop} (h : ∀ x ∈ S, P x) (k : Nat) (hk : k < S.length) : P (S[k]?.getD (0, 0)) := by
  have : S[k]?.getD (0, 0) = S[k] := by simp [hk]
  rw [this]; exact h _ (List.getElem_mem hk)
end Go.Proofs.YthmiekinjfaflaaGreat
namespace Go.Proofs.YthmiekinjfaflaaGreat
open Go.RowKit
theorem Ps.part {W : World} {b off cap n : Nat} {S : List (Int × Int)} (h : Ps W (.slice (some ⟨b, off, none⟩) n cap) S) (lo hi : Nat) (h1 : lo ≤ hi) (h2 : hi ≤ n) (h3 : ¬ cap = lo) : Ps W (.slice (some ⟨b, off + lo * 2, none⟩) (hi - lo) (cap - lo)) ((S.drop lo).take (hi - lo)) := by
  obtain ⟨ao, cap', e, q1, q2, q3, q4⟩ := h
  simp only [Value.slice.injEq] at e
  obtain ⟨rfl, rfl, rfl⟩ := e
  obtain ⟨b', off', e, q5, q6⟩ := q4 (by omega)
  cases e
  have hlen : ((S.drop lo).take (hi - lo)).length = hi - lo := by simp; omega
  refine ⟨_, _, by rw [hlen], by omega, by omega, fun x hx => q3 x (List.mem_of_mem_drop (List.mem_of_mem_take hx)), fun _ => ⟨b, off + lo * 2, rfl, q5, fun j hj => ?_⟩⟩
  rw [hlen] at hj
  have := q6 (lo + j) (by omega)
  rw [show off + lo * 2 + j * 2 = off + (lo + j) * 2 by omega, List.getElem?_take, if_pos hj, List.getElem?_drop]
  exact this
theorem Ps.empty {W : World} {ao : Option Addr} : Ps W (.slice ao 0 0) [] := ⟨ao, 0, rfl, by simp, by simp [maxLen], by simp, fun h => by omega⟩
theorem Ps.fits {W : World} {v : Value} {S : List (Int × Int)} (h : Ps W v S) : ∀ x ∈ S, 0 ≤ x.1 ∧ x.1 ≤ 18446744073709551615 ∧ 0 ≤ x.2 ∧ x.2 ≤ 18446744073709551615 := by
  obtain ⟨_, _, _, _, _, q, _⟩ := h; exact q
theorem Ps.one (w : World) (x y : Int) (e : TypeId) (h0 : 0 ≤ x ∧ x ≤ 18446744073709551615 ∧ 0 ≤ y ∧ y ≤ 18446744073709551615) : Ps (w.alloc (.cells #[.int .u64 x, .int .u64 y] e)) (.slice (some ⟨w.heap.size, 0, none⟩) 1 1) [(x, y)] := by
  refine ⟨_, _, rfl, by simp, by unfold maxLen; omega, by simpa using h0, fun _ => ⟨w.heap.size, 0, rfl, by simp, fun j hj => ?_⟩⟩
  match j, hj with
  | 0, _ => rw [cell_at, cell_at]; exact ⟨rfl, rfl⟩
theorem below_grown {W w' : World} {row : Option Nat} (hg : W.grownBy w' row) (hr : row = none) : Below W.heap.size W w' := (Below.refl _ W).grown hg (Nat.le_refl _) (fun k hk => by rw [hr] at hk; cases hk)
section
variable {P : Program} {w : World}
theorem wp_append_ps {o : Oper} {a : Act} {K : Act → World → Prop} {Q : Exit → Act → World → Prop} (s x : Operand) (t : TypeId)
    (ho : o.op = .call { callee := .builtin .append, args := #[s, x], argTypes := #[t, t] })
    (base : Nat) (e : TypeId) (i : TypeInfo) (ht : P.underlying t = some (.slice e)) (hi : P.info? e = some i) (hz : i.zero = some (.agg #[.int .u64 0, .int .u64 0])) (hsize : i.size = 2) (hby : i.bytes = 16)
    (v : Value) (n : Nat) (A : List (Int × Int)) (hs : a.eval s = v) (hown : w.ownsRow base e 2 v n (spanC A))
    (vx : Value) (S : List (Int × Int)) (hx : a.eval x = vx) (hu : Ps w vx S) (h63 : n + S.length ≤ 1000000) (hbase : base ≤ w.heap.size)
    (h : ∀ v' w', w'.ownsRow base e 2 v' (n + S.length) (spanC (A ++ S)) → w.grownBy w' v.ownBlock → K (a.put o.dst v') w') : o.wp P a w K Q := by
  obtain ⟨ao, cap, rfl, q1, q2, q3, q4⟩ := hu
  cases ao with
  | none =>
    have h0 : S.length = 0 := by
      rcases Nat.eq_zero_or_pos S.length with h | h
      · exact h
      · obtain ⟨b, off, e, _⟩ := q4 (by omega); cases e
    have hL : S = [] := List.eq_nil_of_length_eq_zero h0
    subst hL
    unfold Oper.wp execOp
    simp only [ho, resolve, invoke, builtin, Sem.run_bind, Sem.run_pure, Result.andThen_ok, List.map_toArray, List.map_cons, List.map_nil, hs, hx, List.length_nil, run_append_own_nil w base t o.type e i ht hi 2 v n _ hown cap]
    exact h v w (by simpa using hown) ⟨rfl, rfl, rfl, Nat.le_refl _, fun _ _ _ => rfl⟩
  | some ad =>
    refine wp_append_own w s x t ho base e i (.agg #[.int .u64 0, .int .u64 0]) 2 16 ht hi hz hsize hby rfl (by decide) v n _ hs hown ad S.length cap (spanC S) hx (spanC_length S) ?_ ?_ (by unfold maxLen; omega) (by omega) hbase ?_
    · intro j u hj
      have hjl : j < S.length * 2 := by
        have := (List.getElem?_eq_some_iff.1 hj).1
        rwa [spanC_length] at this
      obtain ⟨b, off, e, h1, h2⟩ := q4 (by omega)
      cases e
      have hh := h2 (j / 2) (by omega)
      have gg := spanC_get S (j / 2) (by omega)
      rw [Addr.add_lit]
      by_cases hp : j % 2 = 0
      · have e1 : j / 2 * 2 = j := by omega
        rw [e1] at hh gg
        rw [hh.1, ← gg.1]; exact hj
      · have e1 : j / 2 * 2 + 1 = j := by omega
        rw [Nat.add_assoc, e1] at hh
        rw [e1] at gg
        rw [hh.2, ← gg.2]; exact hj
    · intro u hu
      clear h
      induction S with
      | nil => simp [spanC] at hu
      | cons s t ih =>
        simp only [spanC, List.mem_cons] at hu
        rcases hu with rfl | rfl | hu
        · rfl
        · rfl
        · have : ∀ (T : List (Int × Int)), ∀ u ∈ spanC T, u.oneCell' = true := by
            intro T
            induction T with
            | nil => intro u hu; simp [spanC] at hu
            | cons a b ihb =>
              intro u hu
              simp only [spanC, List.mem_cons] at hu
              rcases hu with rfl | rfl | hu
              · rfl
              · rfl
              · exact ihb u hu
          exact this t u hu
    · intro v' w' h1 h2 _
      refine h v' w' ?_ h2
      rw [spanC_append]; exact h1
theorem wpList_append_ps {ops : Array Oper} {rest : List Oper} {o : Oper} {a : Act} {Q : Exit → Act → World → Prop} (hgd : Region.wanted o (yielded ops a.tmps) = true) (s x : Operand) (t : TypeId)
    (ho : o.op = .call { callee := .builtin .append, args := #[s, x], argTypes := #[t, t] })
    (base : Nat) (e : TypeId) (i : TypeInfo) (ht : P.underlying t = some (.slice e)) (hi : P.info? e = some i) (hz : i.zero = some (.agg #[.int .u64 0, .int .u64 0])) (hsize : i.size = 2) (hby : i.bytes = 16)
    (v : Value) (n : Nat) (A : List (Int × Int)) (hs : a.eval s = v) (hown : w.ownsRow base e 2 v n (spanC A))
    (vx : Value) (S : List (Int × Int)) (hx : a.eval x = vx) (hu : Ps w vx S) (h63 : n + S.length ≤ 1000000) (hbase : base ≤ w.heap.size)
    (h : ∀ v' w', w'.ownsRow base e 2 v' (n + S.length) (spanC (A ++ S)) → w.grownBy w' v.ownBlock → wpList P ops Q rest (a.put o.dst v') w') : wpList P ops Q (o :: rest) a w :=
  wpList_wanted hgd fun _ hK => wp_append_ps s x t ho base e i ht hi hz hsize hby v n A hs hown vx S hx hu h63 hbase fun v' w' h1 h2 => hK _ _ (h v' w' h1 h2)
theorem step_append_ps {ops : Array Oper} {o : Oper} {a : Act} {K : Act → World → Prop} {Q : Exit → Act → World → Prop} {E : Prop} (hgd : Region.wanted o (yielded ops a.tmps) = true) (s x : Operand) (t : TypeId)
    (ho : o.op = .call { callee := .builtin .append, args := #[s, x], argTypes := #[t, t] })
    (base : Nat) (e : TypeId) (i : TypeInfo) (ht : P.underlying t = some (.slice e)) (hi : P.info? e = some i) (hz : i.zero = some (.agg #[.int .u64 0, .int .u64 0])) (hsize : i.size = 2) (hby : i.bytes = 16)
    (v : Value) (n : Nat) (A : List (Int × Int)) (hs : a.eval s = v) (hown : w.ownsRow base e 2 v n (spanC A))
    (vx : Value) (S : List (Int × Int)) (hx : a.eval x = vx) (hu : Ps w vx S) (h63 : n + S.length ≤ 1000000) (hbase : base ≤ w.heap.size)
    (h : ∀ v' w', w'.ownsRow base e 2 v' (n + S.length) (spanC (A ++ S)) → w.grownBy w' v.ownBlock → K (a.put o.dst v') w') :
    if Region.wanted o (yielded ops a.tmps) = true then Oper.wp P o a w K Q else E := by
  rw [if_pos hgd]
  exact wp_append_ps s x t ho base e i ht hi hz hsize hby v n A hs hown vx S hx hu h63 hbase h
end
end Go.Proofs.YthmiekinjfaflaaGreat
