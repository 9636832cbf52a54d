/-
  The library's iterator over the pieces of a slice of octets, sixteen by sixteen. Conditions: the slice holds octets, not too many.
-/
import Derived.Test.YtomhccendbnamaaDoorZB6
import Derived.RangeFuncNested
import Derived.RangeFuncBox
import Derived.RangeFuncLeaves
import Derived.Shelf.Abstract
import Derived.WalkKit
import Derived.OwnWalkIn
import Derived.TacticsInMore
import Derived.LoopNIn
import Derived.LoopIn
import Derived.RegionIn
import Derived.Sort.QuietIn
import Derived.Stop.RegionWithIn
namespace Go.Proofs.YtomhccendbnamaaDoor
open Go.RowKit Go.Shelf
attribute [local go_sem] Oper.semAt_some
/-- the piece x of a slice of n octets -/
abbrev pieceV (b off n x : Nat) : Value := .slice (some ⟨b, off + 16 * x, none⟩) (min 16 (n - 16 * x)) (min 16 (n - 16 * x))
/-- what a round keeps: what lay below n₀, and the two boxes of the iterator -/
def Kch (n₀ Bl Bn : Nat) (A B : World) : Prop := Below n₀ A B ∧ (∀ v, Boxed A Bl 74 v → Boxed B Bl 74 v) ∧ (∀ v, Boxed A Bn 3 v → Boxed B Bn 3 v)
theorem Kch.trans {n₀ Bl Bn : Nat} {A B C : World} (h1 : Kch n₀ Bl Bn A B) (h2 : Kch n₀ Bl Bn B C) : Kch n₀ Bl Bn A C := ⟨h1.1.trans h2.1, fun v h => h2.2.1 v (h1.2.1 v h), fun v h => h2.2.2 v (h1.2.2 v h)⟩
theorem Kch.refl (n₀ Bl Bn : Nat) (A : World) : Kch n₀ Bl Bn A A := ⟨Below.refl _ _, fun _ h => h, fun _ h => h⟩
theorem Kch.dr {n₀ Bl Bn : Nat} {A B : World} (h : Kch n₀ Bl Bn A B) (k : Nat) : Kch n₀ Bl Bn A (B.drewN k) := ⟨below_dr h.1 k, fun v hv => h.2.1 v hv, fun v hv => h.2.2 v hv⟩
set_option maxRecDepth 100000 in
set_option maxHeartbeats 2000000 in
theorem chunk1_in (n : Nat) (hn : 1 ≤ n) (l Bl Bn n₀ N m b off cap : Nat) (J Jx : List (Fin N) → World → Prop)
    (hN : (m + 15) / 16 = N) (ao : Option Addr) (hao : 0 < m → ao = some ⟨b, off, none⟩) (hm : m ≤ 65536) (hcap : m ≤ cap) (hcm : cap ≤ maxLen)
    (hY : ∀ pre x W, J pre W → pre.length < N → YieldAt Fence.wide (n - 1) Tryd.prog l #[pieceV b off m x.1] W fun e W' =>
      (e = .returned (.bool true) ∧ J (pre ++ [x]) W' ∧ Kch n₀ Bl Bn W W') ∨ (e = .returned (.bool false) ∧ Jx (pre ++ [x]) W'))
    (hD : ∀ pre W k, J pre W → J pre (World.drewN W k)) (W : World) (hBl : Boxed W Bl 74 (.slice ao m cap)) (hBn : Boxed W Bn 3 (.int .i64 16)) (h0 : J [] W) :
    CallsIn Fence.wide n Tryd.prog 97 #[.func (.yield l) #[] #[], .pointer (some ⟨Bl, 0, none⟩), .pointer (some ⟨Bn, 0, none⟩)] W fun e W' => (∃ v, e = .returned v) ∧
      ((∃ ys, ys = M.upto N N (Nat.le_refl _) ∧ J ys W') ∨ (∃ pre : List (Fin N), True ∧ Jx pre W')) := by
  have HY := hid' hY
  clear hY
  unfold maxLen at hcm
  refine callsIn_of_wp Tryd.func97 rfl trivial ?_ rfl
  simp only [Tryd.ntmps97, List.size_toArray, List.length_cons, List.length_nil, Nat.reduceAdd, Nat.reduceSub, Array.replicate_succ, Array.replicate_zero, List.push_toArray, List.append_toArray, List.nil_append, List.cons_append]
  gi_wp2
  gi_loopw [4] (fun i wr => ∃ (k : Nat) (hk : k ≤ N), i = .int .i64 ((16 * k : Nat) : Int) ∧ J (M.upto N k hk) wr ∧ Kch n₀ Bl Bn W wr) (fun i _ => m + 32 - (intOf i).toNat)
  case atStart => exact ⟨0, by omega, rfl, h0, Kch.refl _ _ _ _⟩
  case round =>
    obtain ⟨k, hk, rfl, hJ, hK⟩ := hrel
    have cl := (hK.2.1 _ hBl).cell
    have cn := (hK.2.2 _ hBn).cell
    by_cases hlt : k < N
    · have hq : 16 * k < m := by omega
      obtain rfl := hao (by omega)
      have hpl : (M.upto N k hk).length < N := by rw [M.upto_length]; exact hlt
      have HY2 : Hid (∀ nq, YieldAt Fence.wide (n - 1) Tryd.prog l #[pieceV b off m k] (wr.drewN nq) fun e W' =>
        (e = .returned (.bool true) ∧ J (M.upto N (k + 1) hlt) W' ∧ Kch n₀ Bl Bn (wr.drewN nq) W') ∨ (e = .returned (.bool false) ∧ Jx (M.upto N (k + 1) hlt) W')) :=
        fun nq => HY.out (M.upto N k hk) ⟨k, hlt⟩ (wr.drewN nq) (hD _ _ _ hJ) hpl
      have HN : Hid (16 * (k + 1) = 16 * k + 16) := Nat.mul_succ 16 k
      unfold pieceV at HY2
      clear HY hJ
      generalize hX : 16 * k = X at *
      have hcX : ¬ cap = X := by omega
      have hXc : X ≤ cap := by omega
      gi_wp2
      gi_quiet (fail)
      have he : (if ((m - X : Nat) : Int) < 16 then ((m - X : Nat) : Int) else 16) = ((min 16 (m - X) : Nat) : Int) := by split <;> omega
      rw [he]
      have hE0 : 0 < min 16 (m - X) := by omega
      have hE1 : min 16 (m - X) ≤ 16 := by omega
      have hE2 : X + min 16 (m - X) ≤ m := by omega
      obtain ⟨fn, tmps, assign, body, hy, hR⟩ := HY2.out nq
      have HE : Hid (min 16 (m - X) = 16 ∨ k + 1 = N) := by show _ ∨ _; omega
      clear HY2 he
      generalize min 16 (m - X) = E at *
      have hi1 : ((X : Int) + E).toNat = X + E := by omega
      gi_wp2
      refine hR.mono ?_
      have hK2 := hK.dr nq
      rintro e W3 (⟨rfl, hJ3, hk3⟩ | ⟨rfl, hJx3⟩)
      · have hK3 := hK2.trans hk3
        have cn3 := (hK3.2.2 _ hBn).cell
        have HJ := hid' hJ3
        have HK := hid' hK3
        clear hJ3 hK3 hk3 hK hK2 hR hy cl cn
        gi_wp2
        go_roundw
        case rel => exact ⟨k + 1, hlt, by rw [HN.out]; go_num, HJ.out, HK.out⟩
        case measure => simp [intOf]; omega
      · gi_wp2
        refine bodyPost_ret (results_none rfl _ _ _) rfl ?_
        exact ⟨⟨_, rfl⟩, .inr ⟨_, trivial, hJx3⟩⟩
    · have hq : ¬ ((16 * k : Nat) : Int) < m := by omega
      obtain rfl : k = N := by omega
      have hq2 : ¬ 16 * k < m := by omega
      generalize hX : 16 * k = X at *
      clear HY
      gi_wp2
      go_end0
      exact ⟨⟨_, rfl⟩, .inl (by first | exact hJ | exact ⟨_, rfl, hJ⟩)⟩
set_option maxRecDepth 100000 in
set_option maxHeartbeats 1000000 in
/-- Chunk(s, n): both are boxed; the function value captures the boxes -/
theorem chunk_in (n : Nat) (ao : Option Addr) (len cap : Nat) (w : World) :
    CallsIn Fence.wide n Tryd.prog 88 #[.slice ao len cap, .int .i64 16] w fun e w' => e = .returned (.func (.func 97) #[] #[.pointer (some ⟨w.heap.size, 0, none⟩), .pointer (some ⟨w.heap.size + 1, 0, none⟩)]) ∧ w' = (w.alloc (.cells #[.slice ao len cap] 74)).alloc (.cells #[.int .i64 16] 3) := by
  refine callsIn_of_wp Tryd.func88 rfl trivial ?_ rfl
  simp only [Tryd.ntmps88, List.size_toArray, List.length_cons, List.length_nil, Nat.reduceAdd, Nat.reduceSub, Array.replicate_succ, Array.replicate_zero, List.push_toArray, List.append_toArray, List.nil_append, List.cons_append]
  gi_wp2
  go_ret
  exact ⟨rfl, rfl⟩
set_option maxRecDepth 100000 in
theorem chunk_stops (n : Nat) (hn : 1 ≤ n) (Bl Bn N m b off cap : Nat) (hN : (m + 15) / 16 = N) (ao : Option Addr) (hao : 0 < m → ao = some ⟨b, off, none⟩) (hm : m ≤ 65536) (hcap : m ≤ cap) (hcm : cap ≤ maxLen)
    (w w0 : World) (hBl : Boxed w Bl 74 (.slice ao m cap)) (hBn : Boxed w Bn 3 (.int .i64 16)) :
    SeqStopsK Fence.wide n Tryd.prog 97 #[.pointer (some ⟨Bl, 0, none⟩), .pointer (some ⟨Bn, 0, none⟩)] (fun x : Fin N => #[pieceV b off m x.1]) (Kch w0.heap.size Bl Bn) (fun ys => ys = M.upto N N (Nat.le_refl _)) (fun _ => True) N w := fun l J Jx W hW hJ _ hY h0 =>
  chunk1_in n hn l Bl Bn w0.heap.size N m b off cap J Jx hN ao hao hm hcap hcm hY (fun pre X k h => hJ pre X (X.drewN k) none h ⟨rfl, rfl, rfl, Nat.le_refl _, fun _ _ _ => rfl⟩ (fun r e => by cases e)) W ((hW.block Bl hBl.lt).trans hBl) ((hW.block Bn hBn.lt).trans hBn) h0
end Go.Proofs.YtomhccendbnamaaDoor
namespace Go.Proofs.YtomhccendbnamaaDoor
open Go.RowKit Go.Shelf
attribute [local go_sem] Oper.semAt_some
theorem bx2_own {β : Type} (B Bx : Nat) (F : β → M.Blk) : OwnFrom B (fun (s : β) W => Bx2 W Bx (F s)) := by
  intro s W W' row h hg hr
  refine (hg.block Bx h.lt (fun e => ?_)).trans h
  obtain ⟨_, o, ho, hc⟩ := hr Bx e.symm
  rw [show W.heap[Bx]? = _ from h] at ho; cases ho; cases hc
theorem Boxed.toBelow {A B : World} {k : Nat} {t : TypeId} {v : Value} (h : Boxed A k t v) (hb : Below A.heap.size A B) : Boxed B k t v := (hb.block k h.lt).trans h
theorem boxed_other {A : World} {k : Nat} {t : TypeId} {v : Value} (h : Boxed A k t v) {p : Addr} (hp : k ≠ p.block) (u : Value) : Boxed (A.setCell p u) k t v := (Below.heap_setCell _ _ _ _ hp).trans h
theorem keeps_of_below {A B : World} (hb : Below A.heap.size A B) : KeepsOthers A B := ⟨hb.size, fun k _ h _ => (hb.block k (Array.getElem?_eq_some_iff.1 h).1).trans h⟩
theorem bx2_put {W : World} {B : Nat} {b : M.Blk} (h : Bx2 W B b) (D : Nat) (o : Obj) (hD : B ≠ D) : Bx2 (W.putObj D o) B b := ((grownBy_putObj' W D o).block B h.lt (by simpa using hD)).trans h
theorem piece_bs {w W : World} {ao : Option Addr} {cap b off : Nat} {L : List Int} (hu : Bs w (.slice ao L.length cap) L) (hao : 0 < L.length → ao = some ⟨b, off, none⟩) (x : Nat) (hx : x < M.pcs L) (hb : Below w.heap.size w W) : Bs W (pieceV b off L.length x) (M.pc L x) := by
  unfold M.pcs at hx
  obtain rfl := hao (by omega)
  have hq : L.length ≤ cap := by
    obtain ⟨ao', cap', e, q1, q2, q3, q4⟩ := hu
    simp only [Value.slice.injEq] at e
    omega
  have h := (hu.below hb).part (16 * x) (16 * x + min 16 (L.length - 16 * x)) (min 16 (L.length - 16 * x)) (by omega) (by omega) (by omega) (by omega) (by omega)
  rw [show 16 * x + min 16 (L.length - 16 * x) - 16 * x = min 16 (L.length - 16 * x) by omega] at h
  have e : (L.drop (16 * x)).take (min 16 (L.length - 16 * x)) = M.pc L x := by
    unfold M.pc
    rw [show L.length - 16 * x = (L.drop (16 * x)).length by simp, ← List.take_eq_take_min]
  rw [e] at h
  exact h
set_option maxRecDepth 100000 in
set_option maxHeartbeats 4000000 in
theorem fold_yes (c : M.Blk) (L : List Int) (v : Value) (w : World) (hu : Bs w v L) (hL : L.length ≤ 65536) :
    Calls Tryd.prog 80 #[blkV c, v] w fun e w' => e = .returned (.tuple #[blkV (M.fold c L), .int .i64 0]) ∧ Below w.heap.size w w' := by
  have hu0 := hu
  obtain ⟨ao, cap, rfl, q1, q2, q3, q4⟩ := hu0
  obtain ⟨b, off, hao⟩ : ∃ b off, 0 < L.length → ao = some ⟨b, off, none⟩ := by
    by_cases h0 : 0 < L.length
    · obtain ⟨b, off, h, _⟩ := q4 (by omega)
      exact ⟨b, off, fun _ => h⟩
    · exact ⟨0, 0, fun h => absurd h h0⟩
  have HU := hid' hu
  have HA := hid' hao
  have HF : Hid (M.fold c L = (M.upto (M.pcs L) (M.pcs L) (Nat.le_refl _)).foldl (fun c x => M.step c (M.pc L x.1)) c) := (M.upto_fold c L _ _ _).symm
  have HPC : Hid (∀ W x, x < M.pcs L → Below w.heap.size w W → Bs W (pieceV b off L.length x) (M.pc L x)) := fun W x hx hb => piece_bs hu hao x hx hb
  have HOC : Hid (∀ x, M.Oct (M.fillF (M.pc L x))) := fun x => fillF_oct (fun y hy => q3 y (List.mem_of_mem_drop (List.mem_of_mem_take hy)))
  have HNN : Hid ((L.length + 15) / 16 = M.pcs L) := rfl
  generalize M.pcs L = N at *
  generalize hm : L.length = m at *
  clear q3 q4 hu hao
  unfold blkV
  refine (callsIn_wide (n := 6)).1 ?_
  refine callsIn_of_wp_marks Tryd.func80 rfl trivial ?_ rfl
  simp only [Tryd.ntmps80, List.size_toArray, List.length_cons, List.length_nil, Nat.reduceAdd, Nat.reduceSub, Array.replicate_succ, Array.replicate_zero, List.push_toArray, List.append_toArray, List.nil_append, List.cons_append]
  gi_wp2_with (first | (refine ⟨trivial, ?_⟩; gi_at_call 88; refine (chunk_in _ _ _ _ _).mono ?_; rintro e w' ⟨rfl, rfl⟩))
  obtain ⟨hx, hz, hB⟩ := box2 w c _ rfl
  have hx := (hx.alloc (.cells #[.slice ao m cap] 74)).alloc (.cells #[.int .i64 16] 3)
  have hz := (hz.alloc (.cells #[.slice ao m cap] 74)).alloc (.cells #[.int .i64 16] 3)
  have hB := below_one (below_one hB (o := .cells #[.slice ao m cap] 74)) (o := .cells #[.int .i64 16] 3)
  have bS := (Boxed.new ((w.alloc (.cells #[.int .u64 (M.nu c.1), .int .u64 (M.nu c.2)] 25)).alloc (.cells #[.int .u64 0, .int .u64 0] 25)) 74 (.slice ao m cap)).alloc (.cells #[.int .i64 16] 3)
  have bN := Boxed.new (((w.alloc (.cells #[.int .u64 (M.nu c.1), .int .u64 (M.nu c.2)] 25)).alloc (.cells #[.int .u64 0, .int .u64 0] 25)).alloc (.cells #[.slice ao m cap] 74)) 3 (.int .i64 16)
  simp only [World.size_alloc] at bS bN
  have hsz : ((((w.alloc (.cells #[.int .u64 (M.nu c.1), .int .u64 (M.nu c.2)] 25)).alloc (.cells #[.int .u64 0, .int .u64 0] 25)).alloc (.cells #[.slice ao m cap] 74)).alloc (.cells #[.int .i64 16] 3)).heap.size = w.heap.size + 4 := by simp
  generalize (((w.alloc (.cells #[.int .u64 (M.nu c.1), .int .u64 (M.nu c.2)] 25)).alloc (.cells #[.int .u64 0, .int .u64 0] 25)).alloc (.cells #[.slice ao m cap] 74)).alloc (.cells #[.int .i64 16] 3) = W0 at *
  refine wpIn_rangeFunc_ownH rfl (by omega) (gf := 97) (lb := #[.pointer (some ⟨w.heap.size + 1 + 1, 0, none⟩), .pointer (some ⟨w.heap.size + 1 + 1 + 1, 0, none⟩)]) rfl trivial (enters_of Tryd.func97 (by kernel_rfl) rfl)
    (chunk_stops _ (by omega) (w.heap.size + 1 + 1) (w.heap.size + 1 + 1 + 1) N m b off cap HNN.out ao HA.out hL q1 q2 W0 w bS bN) Kch.trans ?hKb (Below.refl _ _) (fun _ => rfl)
    (fun pre W => Bx2 W w.heap.size (pre.foldl (fun c x => M.step c (M.pc L x.1)) c) ∧ (Bx2 W (w.heap.size + 1) (0#64, 0#64) ∧ Below w.heap.size w W))
    (fun _ _ _ => False)
    (OwnFrom.and (bx2_own _ _ _) (OwnFrom.and (bx2_own _ _ _) (ownFrom_below (Nat.le_refl _) (by omega))))
    (fun _ _ _ _ _ hs _ _ => hs)
    ⟨hx, hz, hB⟩
    (fun x a' W => a' = { tmps := #[.agg #[.int .u64 (M.nu c.1), .int .u64 (M.nu c.2)], .slice ao m cap, .pointer (some ⟨w.heap.size, 0, none⟩), undef, .pointer (some ⟨w.heap.size + 1, 0, none⟩), .int .i64 0, pieceV b off m x.1, .slice ao m cap, .int .i64 m, .bool (decide ((65536 : Int) < m)), undef, .slice ao m cap, .func (.func 97) #[] #[.pointer (some ⟨w.heap.size + 1 + 1, 0, none⟩), .pointer (some ⟨w.heap.size + 1 + 1 + 1, 0, none⟩)], pieceV b off m x.1, undef, undef, undef, undef, undef, undef, undef], defers := [] })
    (fun x a' _ X Y row hs hg hr => hs)
    ?assign ?body ?done ?stop
  case hKb =>
    intro W l o o' hl ho hc _
    refine ⟨(belowK_b (w := W0) (n₀ := w.heap.size) (by omega) W l o o' hl ho hc (by assumption)), fun v hv => hv.kept (grownBy_putObj' W l o') ?_, fun v hv => hv.kept (grownBy_putObj' W l o') ?_⟩
    · intro e
      obtain rfl : w.heap.size + 1 + 1 = l := by simpa using e
      rw [show W.heap[w.heap.size + 1 + 1]? = _ from hv] at ho; cases ho; cases hc
    · intro e
      obtain rfl : w.heap.size + 1 + 1 + 1 = l := by simpa using e
      rw [show W.heap[w.heap.size + 1 + 1 + 1]? = _ from hv] at ho; cases ho; cases hc
  case assign =>
    rintro l pre x W K hI hK
    gi_wp2
    exact hK _ _ ((KeepsOthers.refl _).from _) (Kch.refl _ _ _ _) hI rfl
  case body =>
    rintro l pre x a' W hl _ ⟨hbx, hbz, hB⟩ rfl hlt
    have HP := hid' (HPC.out W x.1 x.2 hB)
    have HO := hid' (HOC.out x.1)
    have HS : Hid ((pre ++ [x]).foldl (fun c x => M.step c (M.pc L x.1)) c = M.mix (M.xor (pre.foldl (fun c x => M.step c (M.pc L x.1)) c) (M.ofOct (M.fillF (M.pc L x.1))))) := by
      show _ = _
      rw [List.foldl_append]; rfl
    generalize pre.foldl (fun c x => M.step c (M.pc L x.1)) c = cur at *
    obtain ⟨hc0, hc1, hf0, hf1⟩ := hbx.facts
    clear HPC HOC HF
    gi_wp2
    gi_region_with (first | (refine ⟨trivial, ?_⟩; gi_at_call 89; refine (CallsIn.inRound _ (callsIn_wide.2 (filled_any (M.pc L x.1) _ _ (by exact HP.out)))).mono ?_; rintro e wa ⟨he, hb⟩; have xwa := Bx2.below (B := w.heap.size) (b := cur) (by exact hbx) hb; have bwa : Below W.heap.size W wa := below_trans (w1 := W) (Below.refl _ W) ⟨hb.os, hb.tape, hb.output, hb.size, hb.block⟩; clear hb; obtain ⟨c0wa, c1wa, f0wa, f1wa⟩ := xwa.facts; subst he) | (refine ⟨trivial, ?_⟩; gi_at_call 90; refine (CallsIn.inRound _ (callsIn_wide.2 (block_any (M.fillF (M.pc L x.1)) _ HO.out))).mono ?_; rintro e wb ⟨he, hb⟩; have xwb := Bx2.below (B := w.heap.size) (b := cur) (by exact xwa) hb; have bwb : Below W.heap.size W wb := below_trans (w1 := wa) bwa ⟨hb.os, hb.tape, hb.output, hb.size, hb.block⟩; clear hb; obtain ⟨c0wb, c1wb, f0wb, f1wb⟩ := xwb.facts; unfold blkV at he; subst he) | (refine ⟨trivial, ?_⟩; gi_at_call 75; refine (CallsIn.inRound _ (callsIn_wide.2 (xor_at cur (M.ofOct (M.fillF (M.pc L x.1))) _))).mono ?_; rintro e wc ⟨he, hb⟩; have xwc := Bx2.below (B := w.heap.size) (b := cur) (by exact xwb) hb; have bwc : Below W.heap.size W wc := below_trans (w1 := wb) bwb ⟨hb.os, hb.tape, hb.output, hb.size, hb.block⟩; clear hb; obtain ⟨c0wc, c1wc, f0wc, f1wc⟩ := xwc.facts; subst he) | (refine ⟨trivial, ?_⟩; gi_at_call 76; refine (CallsIn.inRound _ (callsIn_wide.2 (mix_at (M.xor cur (M.ofOct (M.fillF (M.pc L x.1)))) _))).mono ?_; rintro e wd ⟨he, hb⟩; have xwd := Bx2.below (B := w.heap.size) (b := cur) (by exact xwc) hb; have bwd : Below W.heap.size W wd := below_trans (w1 := wc) bwc ⟨hb.os, hb.tape, hb.output, hb.size, hb.block⟩; clear hb; obtain ⟨c0wd, c1wd, f0wd, f1wd⟩ := xwd.facts; subst he))
    all_goals
      refine ⟨(((keeps_of_below bwd).trans (KeepsOthers.setCell _ _ _)).trans (KeepsOthers.setCell _ _ _)).from _, ⟨((bwd.mono hB.size).setCell (Nat.le_refl _) _).setCell (Nat.le_refl _) _, fun v hv => boxed_other (boxed_other (Boxed.toBelow hv bwd) (by simp; omega) _) (by simp; omega) _, fun v hv => boxed_other (boxed_other (Boxed.toBelow hv bwd) (by simp; omega) _) (by simp; omega) _⟩, ?_, ((hbz.below bwd).other (by simp) _).other (by simp) _, below_set2 (below_trans hB bwd) (Nat.le_refl _) _ _⟩
      rw [HS.out]; exact xwd.set _
  case done =>
    rintro D ys W hD rfl ⟨hbx, hbz, hB⟩ hK
    rw [← HF.out] at hbx
    obtain ⟨hc0, hc1, hf0, hf1⟩ := hbx.facts
    obtain ⟨zc0, zc1, zf0, zf1⟩ := hbz.facts
    have hD2 : w.heap.size + 4 ≤ D := by omega
    gi_wp2
    have hK2 : ((W.setCell ⟨w.heap.size + 1, 0, none⟩ (.int .u64 (M.nu (M.fold c L).1))).setCell ⟨w.heap.size + 1, 1, none⟩ (.int .u64 (M.nu (M.fold c L).2))).heap[D]? = some (.deferred (some [])) := by
      rw [Below.heap_setCell _ _ _ _ (by simp; omega), Below.heap_setCell _ _ _ _ (by simp; omega)]; exact hK
    have hz2 := hbz.set (M.fold c L)
    have hB2 := below_set2 (B := w.heap.size + 1) hB (by omega) (.int .u64 (M.nu (M.fold c L).1)) (.int .u64 (M.nu (M.fold c L).2))
    generalize (W.setCell ⟨w.heap.size + 1, 0, none⟩ (.int .u64 (M.nu (M.fold c L).1))).setCell ⟨w.heap.size + 1, 1, none⟩ (.int .u64 (M.nu (M.fold c L).2)) = W2 at *
    refine ⟨by simp, .inl ⟨_, _, rfl, run_takeDeferred hK2, ?_⟩⟩
    have hz3 := bx2_put hz2 D (.deferred none) (by omega)
    obtain ⟨g0, g1, _, _⟩ := hz3.facts
    refine ⟨.tuple #[.agg #[.int .u64 _, .int .u64 _], .int .i64 0], by simp [results, Tryd.results80, go_sem, g0, g1], rfl, hB2.trans (belowK_b (w := w) (Nat.le_refl _) W2 D _ _ (by omega) hK2 rfl rfl)⟩
  case stop =>
    rintro D c pre W _ _ h _
    exact h.elim
set_option maxRecDepth 100000 in
set_option maxHeartbeats 1000000 in
theorem fold_no (c : M.Blk) (L : List Int) (v : Value) (w : World) (hu : Bs w v L) (hL : ¬ L.length ≤ 65536) :
    Calls Tryd.prog 80 #[blkV c, v] w fun e w' => e = .returned (.tuple #[blkV (0#64, 0#64), .int .i64 3]) ∧ Below w.heap.size w w' := by
  obtain ⟨ao, cap, rfl, q1, q2, q3, q4⟩ := hu
  have h16i : ¬ (L.length : Int) ≤ 65536 := by omega
  clear q4 q3
  generalize L.length = m at *
  unfold blkV
  go_enter Tryd.func80, Tryd.ntmps80
  go_wp2
  refine bodyPost_ret (v := .tuple #[.agg #[.int .u64 0, .int .u64 0], .int .i64 3]) (by simp [results, Tryd.results80, go_sem]) rfl ⟨rfl, ?_⟩
  exact below_one (below_one (Below.refl _ _))
set_option maxRecDepth 100000 in
theorem fold_any (c : M.Blk) (L : List Int) (v : Value) (w : World) (hu : Bs w v L) :
    Calls Tryd.prog 80 #[blkV c, v] w fun e w' => e = .returned (.tuple #[blkV (M.foldV c L), .int .i64 (M.foldE L)]) ∧ Below w.heap.size w w' := by
  by_cases h : L.length ≤ 65536
  · rw [show M.foldV c L = M.fold c L from if_pos h, show M.foldE L = 0 from if_pos h]; exact fold_yes c L v w hu h
  · rw [show M.foldV c L = (0#64, 0#64) from if_neg h, show M.foldE L = 3 from if_neg h]; exact fold_no c L v w hu h
end Go.Proofs.YtomhccendbnamaaDoor
