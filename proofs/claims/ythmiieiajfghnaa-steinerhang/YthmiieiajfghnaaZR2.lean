/-
  What the document's own answer Chain comes to: all nodes above one, in new memory. Conditions: it is a node.
-/
import Derived.Test.YthmiieiajfghnaaZR1
namespace Go.Proofs.Ythmiieiajfghnaa
open Go.RowKit
namespace M
/-- all nodes above n, from the first one on -/
def chainL (n : Int) : List Int := (List.range ((dep n).toNat + 1)).map fun (k : Nat) => up n k
theorem chainL_length (n : Int) : (chainL n).length = (dep n).toNat + 1 := by simp [chainL]
theorem chainL_at (n : Int) (k : Nat) (h : k < (dep n).toNat + 1) : (chainL n)[k]? = some (up n k) := by
  simp [chainL, h]
theorem chainL_one : chainL 1 = [1] := by decide +kernel
theorem dep_half {n : Int} (hn : 2 ≤ n) : dep (n / 2) = dep n - 1 := by
  obtain ⟨_, _, _, _, _, o6⟩ := oth_facts hn
  rw [← up_one, up_dep (by omega) (by omega) (by omega)]
theorem chainL_step {n : Int} (hn : 2 ≤ n) : chainL n = chainL (n / 2) ++ [n] := by
  obtain ⟨_, _, _, _, _, o6⟩ := oth_facts hn
  have hd := dep_half hn
  unfold chainL
  rw [hd, show (dep n).toNat + 1 = ((dep n - 1).toNat + 1) + 1 by omega, List.range_succ, List.map_append]
  congr 1
  · apply List.map_congr_left
    intro k hk
    have hk2 := List.mem_range.1 hk
    rw [← up_one, up_up (by omega) (by omega) (by omega) (by omega)]
  · simp only [List.map_cons, List.map_nil]
    congr 1
    rw [show (((dep n - 1).toNat + 1 : Nat) : Int) = dep n by omega, up_self]
end M
theorem Try.infoU64 : (Try.prog.info? 23).map (fun i => (i.zero, i.size, i.bytes)) = some (some (.int .u64 0), 1, 8) := by kernel_rfl
abbrev u64s (l : List Int) : List Value := l.map (Value.int .u64)
theorem own_shape {w : World} {base : Nat} {e : TypeId} {v : Value} {k : Nat} {xs : List Value} (h : w.ownsRow base e 1 v (k + 1) xs) : ∃ g cap, v = .slice (some ⟨g, 0, none⟩) (k + 1) cap := by
  rcases h.2 with ⟨_, h2⟩ | ⟨g, cap, cur, h2, _⟩
  · omega
  · exact ⟨g, cap, h2⟩
set_option maxRecDepth 100000 in
set_option maxHeartbeats 1000000 in
theorem chain_any : ∀ (m : Nat) (n : Int) (w : World), 1 ≤ n → n ≤ 18446744073709551615 → M.dep n = m →
    Calls Try.prog 38 #[.int .u64 n] w fun e w' => ∃ g cap, e = .returned (.slice (some ⟨g, 0, none⟩) (m + 1) cap) ∧ w'.ownsRow w.heap.size 23 1 (.slice (some ⟨g, 0, none⟩) (m + 1) cap) (m + 1) (u64s (M.chainL n)) ∧ Below w.heap.size w w' := by
  intro m
  induction m with
  | zero =>
    intro n w h0 h1 hd
    have hn : n = 1 := by
      have := M.dep_lt n h0
      rw [hd, show ((0 : Nat) : Int) = 0 from rfl, M.p2_zero] at this; omega
    subst hn
    clear hd
    go_enter Try.func38, Try.ntmps38
    go_wp2
    go_ret
    refine ⟨w.heap.size, 1, rfl, ?_, (Below.refl _ _).alloc (Nat.le_refl _) _⟩
    rw [M.chainL_one]
    exact World.ownsRow_lit w #[.int .u64 1] 1 (Nat.le_refl _) (by decide) rfl
  | succ m ih =>
    intro n w h0 h1 hd
    have hn : 2 ≤ n := by
      have := M.dep_le n h0
      rw [hd] at this
      have := M.p2_mono (show 1 ≤ ((m + 1 : Nat) : Int) by omega)
      have e : M.p2 1 = 2 := by decide
      omega
    have hh : M.dep (n / 2) = m := by rw [M.dep_half hn, hd]; omega
    have hm : m ≤ 63 := by have := M.dep_63 h0 h1; omega
    have IH : Hid (∀ w, Calls Try.prog 38 #[.int .u64 (n / 2)] w fun e w' => ∃ g cap, e = .returned (.slice (some ⟨g, 0, none⟩) (m + 1) cap) ∧ w'.ownsRow w.heap.size 23 1 (.slice (some ⟨g, 0, none⟩) (m + 1) cap) (m + 1) (u64s (M.chainL (n / 2))) ∧ Below w.heap.size w w') :=
      fun w => ih (n / 2) w (by omega) (by omega) hh
    have HC : Hid (M.chainL n = M.chainL (n / 2) ++ [n]) := M.chainL_step hn
    obtain ⟨i0, hi, hz0, hz1, hz2⟩ := info_parts Try.infoU64
    have g1 : (n == 1) = false := by rw [beq_eq_false_iff_ne]; omega
    clear ih hd hh
    go_enter Try.func38, Try.ntmps38
    go_wp2_with (first | (go_at_call 38; refine (IH.out _).mono ?_; rintro e w1 ⟨g, cap, rfl, hown, hbel⟩) | (at_builtin; refine wpList_append_own _ rfl _ _ 22 rfl w.heap.size 23 i0 (.int .u64 0) 1 8 Try.underlying22 hi hz0 hz1 hz2 rfl (by decide) _ _ _ rfl (hown.alloc _) ⟨w1.heap.size, 0, none⟩ 1 1 [.int .u64 n] rfl rfl ?c1 ?c2 ?c3 ?c4 ?c5 ?_))
    case c1 =>
      intro j u hj
      match j, hj with
      | 0, hj => simp at hj; subst hj; simp [Addr.add]
    case c2 => intro u hu; simp at hu; subst hu; rfl
    case c3 => unfold maxLen; omega
    case c4 => omega
    case c5 => have := hbel.size; simp; omega
    intro v' w2 hown2 hgrow2 _
    obtain ⟨g', cap', hv⟩ := own_shape hown2
    have hb2 : Below w.heap.size w w2 := (hbel.alloc hbel.size _).grown hgrow2 (by have := hbel.size; simp; omega) (fun k hk => by simp [Value.ownBlock] at hk; subst hk; exact (hown.lt g rfl).1)
    rw [hv] at hown2 ⊢
    have hfin : w2.ownsRow w.heap.size 23 1 (.slice (some ⟨g', 0, none⟩) (m + 1 + 1) cap') (m + 1 + 1) (u64s (M.chainL n)) := by
      rw [HC.out]; unfold u64s; rw [List.map_append]; exact hown2
    clear hown2 hgrow2 hown hbel hv
    go_wp2
    go_ret
    exact ⟨g', cap', rfl, hfin, hb2⟩
end Go.Proofs.Ythmiieiajfghnaa
