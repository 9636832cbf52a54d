/-
  The library's iterator over the pieces of a slice of octets, sixteen by sixteen. Conditions: the slice holds octets, not too many.
-/
import Derived.Test.YthbacijbgjmigaaZB6
import Derived.RangeFuncNested
import Derived.RangeFuncBox
import Derived.RangeFuncLeaves
import Derived.Shelf.Abstract
import Derived.WalkKit
import Derived.OwnWalkIn
import Derived.TacticsInMore
import Derived.LoopNIn
import Derived.LoopIn
import Derived.RegionIn
import Derived.Sort.QuietIn
namespace Go.Proofs.Ythbacijbgjmigaa
open Go.RowKit Go.Shelf
attribute [local go_sem] Oper.semAt_some
/-- the piece x of a slice of n octets -/
abbrev pieceV (b off n x : Nat) : Value := .slice (some ⟨b, off + 16 * x, none⟩) (min 16 (n - 16 * x)) (min 16 (n - 16 * x))
/-- what a round keeps: what lay below n₀, and the two boxes of the iterator -/
def Kch (n₀ Bl Bn : Nat) (A B : World) : Prop := Below n₀ A B ∧ (∀ v, Boxed A Bl 82 v → Boxed B Bl 82 v) ∧ (∀ v, Boxed A Bn 3 v → Boxed B Bn 3 v)
theorem Kch.trans {n₀ Bl Bn : Nat} {A B C : World} (h1 : Kch n₀ Bl Bn A B) (h2 : Kch n₀ Bl Bn B C) : Kch n₀ Bl Bn A C := ⟨h1.1.trans h2.1, fun v h => h2.2.1 v (h1.2.1 v h), fun v h => h2.2.2 v (h1.2.2 v h)⟩
theorem Kch.refl (n₀ Bl Bn : Nat) (A : World) : Kch n₀ Bl Bn A A := ⟨Below.refl _ _, fun _ h => h, fun _ h => h⟩
theorem Kch.dr {n₀ Bl Bn : Nat} {A B : World} (h : Kch n₀ Bl Bn A B) (k : Nat) : Kch n₀ Bl Bn A (B.drewN k) := ⟨below_dr h.1 k, fun v hv => h.2.1 v hv, fun v hv => h.2.2 v hv⟩
set_option maxRecDepth 100000 in
set_option maxHeartbeats 2000000 in
theorem chunk1_in (n : Nat) (hn : 1 ≤ n) (l Bl Bn n₀ N m b off cap : Nat) (J Jx : List (Fin N) → World → Prop)
    (hN : (m + 15) / 16 = N) (ao : Option Addr) (hao : 0 < m → ao = some ⟨b, off, none⟩) (hm : m ≤ 65536) (hcap : m ≤ cap) (hcm : cap ≤ maxLen)
    (hY : ∀ pre x W, J pre W → pre.length < N → YieldAt Fence.wide (n - 1) Try.prog l #[pieceV b off m x.1] W fun e W' =>
      (e = .returned (.bool true) ∧ J (pre ++ [x]) W' ∧ Kch n₀ Bl Bn W W') ∨ (e = .returned (.bool false) ∧ Jx (pre ++ [x]) W'))
    (hD : ∀ pre W k, J pre W → J pre (World.drewN W k)) (W : World) (hBl : Boxed W Bl 82 (.slice ao m cap)) (hBn : Boxed W Bn 3 (.int .i64 16)) (h0 : J [] W) :
    CallsIn Fence.wide n Try.prog 70 #[.func (.yield l) #[] #[], .pointer (some ⟨Bl, 0, none⟩), .pointer (some ⟨Bn, 0, none⟩)] W fun e W' => (∃ v, e = .returned v) ∧
      ((∃ ys, ys = M.upto N N (Nat.le_refl _) ∧ J ys W') ∨ (∃ pre : List (Fin N), True ∧ Jx pre W')) := by
  have HY := hid' hY
  clear hY
  unfold maxLen at hcm
  refine callsIn_of_wp Try.func70 rfl trivial ?_ rfl
  simp only [Try.ntmps70, List.size_toArray, List.length_cons, List.length_nil, Nat.reduceAdd, Nat.reduceSub, Array.replicate_succ, Array.replicate_zero, List.push_toArray, List.append_toArray, List.nil_append, List.cons_append]
  gi_wp2
  gi_loopw [4] (fun i wr => ∃ (k : Nat) (hk : k ≤ N), i = .int .i64 ((16 * k : Nat) : Int) ∧ J (M.upto N k hk) wr ∧ Kch n₀ Bl Bn W wr) (fun i _ => m + 32 - (intOf i).toNat)
  case atStart => exact ⟨0, by omega, rfl, h0, Kch.refl _ _ _ _⟩
  case round =>
    obtain ⟨k, hk, rfl, hJ, hK⟩ := hrel
    have cl := (hK.2.1 _ hBl).cell
    have cn := (hK.2.2 _ hBn).cell
    by_cases hlt : k < N
    · have hq : 16 * k < m := by omega
      obtain rfl := hao (by omega)
      have hpl : (M.upto N k hk).length < N := by rw [M.upto_length]; exact hlt
      have HY2 : Hid (∀ nq, YieldAt Fence.wide (n - 1) Try.prog l #[pieceV b off m k] (wr.drewN nq) fun e W' =>
        (e = .returned (.bool true) ∧ J (M.upto N (k + 1) hlt) W' ∧ Kch n₀ Bl Bn (wr.drewN nq) W') ∨ (e = .returned (.bool false) ∧ Jx (M.upto N (k + 1) hlt) W')) :=
        fun nq => HY.out (M.upto N k hk) ⟨k, hlt⟩ (wr.drewN nq) (hD _ _ _ hJ) hpl
      have HN : Hid (16 * (k + 1) = 16 * k + 16) := Nat.mul_succ 16 k
      unfold pieceV at HY2
      clear HY hJ
      generalize hX : 16 * k = X at *
      have hcX : ¬ cap = X := by omega
      have hXc : X ≤ cap := by omega
      gi_wp2
      gi_quiet (fail)
      have he : (if ((m - X : Nat) : Int) < 16 then ((m - X : Nat) : Int) else 16) = ((min 16 (m - X) : Nat) : Int) := by split <;> omega
      rw [he]
      have hE0 : 0 < min 16 (m - X) := by omega
      have hE1 : min 16 (m - X) ≤ 16 := by omega
      have hE2 : X + min 16 (m - X) ≤ m := by omega
      obtain ⟨fn, tmps, assign, body, hy, hR⟩ := HY2.out nq
      have HE : Hid (min 16 (m - X) = 16 ∨ k + 1 = N) := by show _ ∨ _; omega
      clear HY2 he
      generalize min 16 (m - X) = E at *
      have hi1 : ((X : Int) + E).toNat = X + E := by omega
      gi_wp2
      refine hR.mono ?_
      have hK2 := hK.dr nq
      rintro e W3 (⟨rfl, hJ3, hk3⟩ | ⟨rfl, hJx3⟩)
      · have hK3 := hK2.trans hk3
        have cn3 := (hK3.2.2 _ hBn).cell
        have HJ := hid' hJ3
        have HK := hid' hK3
        clear hJ3 hK3 hk3 hK hK2 hR hy cl cn
        gi_wp2
        go_roundw
        case rel => exact ⟨k + 1, hlt, by rw [HN.out]; go_num, HJ.out, HK.out⟩
        case measure => simp [intOf]; omega
      · gi_wp2
        refine bodyPost_ret (results_none rfl _ _ _) rfl ?_
        exact ⟨⟨_, rfl⟩, .inr ⟨_, trivial, hJx3⟩⟩
    · have hq : ¬ ((16 * k : Nat) : Int) < m := by omega
      obtain rfl : k = N := by omega
      have hq2 : ¬ 16 * k < m := by omega
      generalize hX : 16 * k = X at *
      clear HY
      gi_wp2
      go_end0
      exact ⟨⟨_, rfl⟩, .inl (by first | exact hJ | exact ⟨_, rfl, hJ⟩)⟩
set_option maxHeartbeats 1000000 in
/-- Chunk(s, n): both are boxed; the function value captures the boxes -/
theorem chunk_in (n : Nat) (ao : Option Addr) (len cap : Nat) (w : World) :
    CallsIn Fence.wide n Try.prog 65 #[.slice ao len cap, .int .i64 16] w fun e w' => e = .returned (.func (.func 70) #[] #[.pointer (some ⟨w.heap.size, 0, none⟩), .pointer (some ⟨w.heap.size + 1, 0, none⟩)]) ∧ w' = (w.alloc (.cells #[.slice ao len cap] 82)).alloc (.cells #[.int .i64 16] 3) := by
  refine callsIn_of_wp Try.func65 rfl trivial ?_ rfl
  simp only [Try.ntmps65, List.size_toArray, List.length_cons, List.length_nil, Nat.reduceAdd, Nat.reduceSub, Array.replicate_succ, Array.replicate_zero, List.push_toArray, List.append_toArray, List.nil_append, List.cons_append]
  gi_wp2
  go_ret
  exact ⟨rfl, rfl⟩
theorem chunk_stops (n : Nat) (hn : 1 ≤ n) (Bl Bn N m b off cap : Nat) (hN : (m + 15) / 16 = N) (ao : Option Addr) (hao : 0 < m → ao = some ⟨b, off, none⟩) (hm : m ≤ 65536) (hcap : m ≤ cap) (hcm : cap ≤ maxLen)
    (w w0 : World) (hBl : Boxed w Bl 82 (.slice ao m cap)) (hBn : Boxed w Bn 3 (.int .i64 16)) :
    SeqStopsK Fence.wide n Try.prog 70 #[.pointer (some ⟨Bl, 0, none⟩), .pointer (some ⟨Bn, 0, none⟩)] (fun x : Fin N => #[pieceV b off m x.1]) (Kch w0.heap.size Bl Bn) (fun ys => ys = M.upto N N (Nat.le_refl _)) (fun _ => True) N w := fun l J Jx W hW hJ _ hY h0 =>
  chunk1_in n hn l Bl Bn w0.heap.size N m b off cap J Jx hN ao hao hm hcap hcm hY (fun pre X k h => hJ pre X (X.drewN k) none h ⟨rfl, rfl, rfl, Nat.le_refl _, fun _ _ _ => rfl⟩ (fun r e => by cases e)) W ((hW.block Bl hBl.lt).trans hBl) ((hW.block Bn hBn.lt).trans hBn) h0
end Go.Proofs.Ythbacijbgjmigaa
