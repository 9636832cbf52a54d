/-
  What the document's own answers power, May, Check, Leaf, Child and Other of layer 1 come to. Conditions: each theorem's own premises.
-/
import Derived.Test.YthmiekinjfaflaaGreatZM3
import Derived.Deep.QuietTactic
import Derived.BigQuiet
namespace Go.Proofs.YthmiekinjfaflaaGreat
open Go.RowKit
theorem M.p2_33' {h : Int} (hh : h ≤ 33) : M.p2 h ≤ 8589934592 := by
  have := M.p2_mono hh
  rw [M.p2_33] at this; exact this
set_option maxRecDepth 100000 in
set_option maxHeartbeats 400000 in
theorem power_any (K : Int) (w : World) (h0 : 0 ≤ K) (h1 : K ≤ 33) :
    Calls Tryz.prog 54 #[.int .i64 K] w fun e w' => e = .returned (.int .u64 (M.p2 K)) ∧ w' = w := by
  obtain ⟨n, rfl⟩ := Int.eq_ofNat_of_zero_le h0
  go_enter Tryz.func54, Tryz.ntmps54
  go_wp2
  go_loop [3, 5] (fun t i => ∃ k : Nat, k ≤ n ∧ i = .int .i64 k ∧ t = .int .u64 (M.p2 k)) (fun _ i => n - (intOf i).toNat)
  case atStart => exact ⟨0, by omega, rfl, by rw [show ((0 : Nat) : Int) = 0 from rfl, M.p2_zero]⟩
  case round =>
    obtain ⟨k, hk, rfl, rfl⟩ := hrel
    have hs := M.p2_succ (k : Int) (by omega)
    have hp := M.p2_pos (k : Int)
    have hb := M.p2_33' (show (k : Int) ≤ 33 by omega)
    by_cases hlt : k < n
    · have HS : Hid (M.p2 ((k + 1 : Nat) : Int) = 2 * M.p2 (k : Int)) := by show _ = _; rw [← hs]; rfl
      clear hs
      go_wp2
      go_round
      case rel => exact ⟨k + 1, by omega, by go_num, by rw [HS.out]⟩
      case measure => simp [intOf]; omega
    · obtain rfl : k = n := by omega
      clear hs
      go_wp2
      go_ret
      exact ⟨rfl, rfl⟩
set_option maxRecDepth 100000 in
set_option maxHeartbeats 400000 in
theorem may_any (h n : Int) (w : World) (h0 : 0 ≤ n) (h1 : n ≤ 18446744073709551615) :
    Calls Tryz.prog 55 #[.int .i64 h, .int .u64 n] w fun e w' => e = .returned (.bool (M.okB h n)) ∧ w' = w := by
  by_cases g1 : 1 ≤ h
  · by_cases g2 : h ≤ 32
    · by_cases g3 : 1 ≤ n
      · have hs := M.p2_succ h (by omega)
        have HK : Hid (M.okB h n = decide (n < M.p2 (h + 1))) := by
          show _ = _
          unfold M.okB; rw [hs]; simp [g1, g2, g3]
        clear hs
        go_enter Tryz.func55, Tryz.ntmps55
        go_wp2_with (first | (go_at_call 54; refine (power_any _ _ (by omega) (by omega)).mono ?_; rintro e w' ⟨rfl, hw⟩; subst w'))
        go_ret
        rw [HK.out]; exact ⟨rfl, rfl⟩
      · have HK : Hid (M.okB h n = false) := by show _ = _; unfold M.okB; rw [decide_eq_false (by omega)]
        go_enter Tryz.func55, Tryz.ntmps55
        go_wp2_with (first | (go_at_call 54; refine (power_any _ _ (by omega) (by omega)).mono ?_; rintro e w' ⟨rfl, hw⟩; subst w'))
        go_ret
        rw [HK.out]; exact ⟨rfl, rfl⟩
    · have HK : Hid (M.okB h n = false) := by show _ = _; unfold M.okB; rw [decide_eq_false (by omega)]
      go_enter Tryz.func55, Tryz.ntmps55
      go_wp2_with (first | (go_at_call 54; refine (power_any _ _ (by omega) (by omega)).mono ?_; rintro e w' ⟨rfl, hw⟩; subst w'))
      go_ret
      rw [HK.out]; exact ⟨rfl, rfl⟩
  · have HK : Hid (M.okB h n = false) := by show _ = _; unfold M.okB; rw [decide_eq_false (by omega)]
    go_enter Tryz.func55, Tryz.ntmps55
    go_wp2_with (first | (go_at_call 54; refine (power_any _ _ (by omega) (by omega)).mono ?_; rintro e w' ⟨rfl, hw⟩; subst w'))
    go_ret
    rw [HK.out]; exact ⟨rfl, rfl⟩
set_option maxRecDepth 100000 in
set_option maxHeartbeats 400000 in
theorem rleaf_any (h i : Int) (w : World) (h0 : 0 ≤ i) (h1 : i ≤ 18446744073709551615) :
    Calls Tryz.prog 32 #[.int .i64 h, .int .u64 i] w fun e w' => e = .returned (.tuple #[.int .u64 (M.leafV h i), .int .i64 (M.leafE h i)]) ∧ w' = w := by
  by_cases hh : 1 ≤ h ∧ h ≤ 32
  · obtain ⟨hh1, hh2⟩ := hh
    have hp := M.p2_32 hh2
    by_cases hi : i < M.p2 h
    · have E : M.leafE h i = 0 := M.leafE_yes hh1 hh2 hi
      have V : M.leafV h i = M.p2 h + i := by unfold M.leafV; rw [if_pos E]
      go_enter Tryz.func32, Tryz.ntmps32
      go_wp2_with (first | (go_at_call 54; refine (power_any _ _ (by omega) (by omega)).mono ?_; rintro e w' ⟨rfl, hw⟩; subst w'))
      go_ret2
      rw [E, V]; exact ⟨rfl, rfl⟩
    · have E : M.leafE h i = 4 := M.leafE_no hh1 hh2 hi
      have V : M.leafV h i = 0 := by unfold M.leafV; rw [E]; rfl
      go_enter Tryz.func32, Tryz.ntmps32
      go_wp2_with (first | (go_at_call 54; refine (power_any _ _ (by omega) (by omega)).mono ?_; rintro e w' ⟨rfl, hw⟩; subst w'))
      go_ret2
      rw [E, V]; exact ⟨rfl, rfl⟩
  · have E : M.leafE h i = 1 := M.leafE_ht hh
    have V : M.leafV h i = 0 := by unfold M.leafV; rw [E]; rfl
    replace hh : h < 1 ∨ (1 ≤ h ∧ 32 < h) := by omega
    rcases hh with hh | ⟨hh0, hh⟩
    all_goals
      go_enter Tryz.func32, Tryz.ntmps32
      go_wp2
      go_ret2
      rw [E, V]; exact ⟨rfl, rfl⟩
set_option maxRecDepth 100000 in
set_option maxHeartbeats 400000 in
theorem rother_any (h n : Int) (w : World) (h0 : 0 ≤ n) (h1 : n ≤ 18446744073709551615) :
    Calls Tryz.prog 34 #[.int .i64 h, .int .u64 n] w fun e w' => e = .returned (.tuple #[.int .u64 (M.othV h n), .int .i64 (M.othE h n)]) ∧ w' = w := by
  cases hk : M.okB h n
  · have E : M.othE h n = 1 := by unfold M.othE; rw [hk]; rfl
    have V : M.othV h n = 0 := by unfold M.othV; rw [E]; rfl
    go_enter Tryz.func34, Tryz.ntmps34
    go_wp2_with (first | (go_at_call 55; refine (may_any _ _ _ (by omega) (by omega)).mono ?_; rintro e w' ⟨rfl, hw⟩; subst w'))
    go_ret2
    rw [E, V]; exact ⟨rfl, rfl⟩
  · obtain ⟨k1, k2, k3, k4⟩ := M.ok_of hk
    have hlt := M.ok_lt hk
    by_cases hr : n = 1
    · have E : M.othE h n = 4 := by unfold M.othE; rw [if_pos hk, if_pos hr]
      have V : M.othV h n = 0 := by unfold M.othV; rw [E]; rfl
      have g : (n == 1) = true := by rw [beq_iff_eq]; exact hr
      clear hr
      go_enter Tryz.func34, Tryz.ntmps34
      go_wp2_with (first | (go_at_call 55; refine (may_any _ _ _ (by omega) (by omega)).mono ?_; rintro e w' ⟨rfl, hw⟩; subst w'))
      go_ret2
      rw [E, V]; exact ⟨rfl, rfl⟩
    · have E : M.othE h n = 0 := by unfold M.othE; rw [if_pos hk, if_neg hr]
      have g : (n == 1) = false := by rw [beq_eq_false_iff_ne]; exact hr
      by_cases hm : n % 2 = 0
      · have V : M.othV h n = n + 1 := by unfold M.othV; rw [if_pos E]; unfold M.oth; rw [if_pos hm]
        have g2 : (n % 2 == 0) = true := by rw [beq_iff_eq]; exact hm
        clear hm
        go_enter Tryz.func34, Tryz.ntmps34
        go_wp2_with (first | (go_at_call 55; refine (may_any _ _ _ (by omega) (by omega)).mono ?_; rintro e w' ⟨rfl, hw⟩; subst w'))
        go_ret2
        rw [E, V]; exact ⟨rfl, rfl⟩
      · have V : M.othV h n = n - 1 := by unfold M.othV; rw [if_pos E]; unfold M.oth; rw [if_neg hm]
        have g2 : (n % 2 == 0) = false := by rw [beq_eq_false_iff_ne]; exact hm
        clear hm
        go_enter Tryz.func34, Tryz.ntmps34
        go_wp2_with (first | (go_at_call 55; refine (may_any _ _ _ (by omega) (by omega)).mono ?_; rintro e w' ⟨rfl, hw⟩; subst w'))
        go_ret2
        rw [E, V]; exact ⟨rfl, rfl⟩
end Go.Proofs.YthmiekinjfaflaaGreat
namespace Go.Proofs.YthmiekinjfaflaaGreat
open Go.RowKit
namespace M
/-- all nodes above n, from the first one on -/
def chainL (n : Int) : List Int := (List.range ((dep n).toNat + 1)).map fun (k : Nat) => up n k
theorem chainL_length (n : Int) : (chainL n).length = (dep n).toNat + 1 := by simp [chainL]
theorem chainL_at (n : Int) (k : Nat) (h : k < (dep n).toNat + 1) : (chainL n)[k]? = some (up n k) := by
  simp [chainL, h]
theorem chainL_one : chainL 1 = [1] := by decide +kernel
theorem dep_half {n : Int} (hn : 2 ≤ n) : dep (n / 2) = dep n - 1 := by
  obtain ⟨_, _, _, _, _, o6⟩ := oth_facts hn
  rw [← up_one, up_dep (by omega) (by omega) (by omega)]
theorem chainL_step {n : Int} (hn : 2 ≤ n) : chainL n = chainL (n / 2) ++ [n] := by
  obtain ⟨_, _, _, _, _, o6⟩ := oth_facts hn
  have hd := dep_half hn
  unfold chainL
  rw [hd, show (dep n).toNat + 1 = ((dep n - 1).toNat + 1) + 1 by omega, List.range_succ, List.map_append]
  congr 1
  · apply List.map_congr_left
    intro k hk
    have hk2 := List.mem_range.1 hk
    rw [← up_one, up_up (by omega) (by omega) (by omega) (by omega)]
  · simp only [List.map_cons, List.map_nil]
    congr 1
    rw [show (((dep n - 1).toNat + 1 : Nat) : Int) = dep n by omega, up_self]
end M
set_option maxRecDepth 100000 in
theorem Tryz.infoU64 : (Tryz.prog.info? 23).map (fun i => (i.zero, i.size, i.bytes)) = some (some (.int .u64 0), 1, 8) := by kernel_rfl
abbrev u64s (l : List Int) : List Value := l.map (Value.int .u64)
theorem own_shape {w : World} {base : Nat} {e : TypeId} {v : Value} {k : Nat} {xs : List Value} (h : w.ownsRow base e 1 v (k + 1) xs) : ∃ g cap, v = .slice (some ⟨g, 0, none⟩) (k + 1) cap := by
  rcases h.2 with ⟨_, h2⟩ | ⟨g, cap, cur, h2, _⟩
  · omega
  · exact ⟨g, cap, h2⟩
set_option maxRecDepth 100000 in
set_option maxHeartbeats 1000000 in
theorem chain_any : ∀ (m : Nat) (n : Int) (w : World), 1 ≤ n → n ≤ 18446744073709551615 → M.dep n = m →
    Calls Tryz.prog 33 #[.int .u64 n] w fun e w' => ∃ g cap, e = .returned (.slice (some ⟨g, 0, none⟩) (m + 1) cap) ∧ w'.ownsRow w.heap.size 23 1 (.slice (some ⟨g, 0, none⟩) (m + 1) cap) (m + 1) (u64s (M.chainL n)) ∧ Below w.heap.size w w' := by
  intro m
  induction m with
  | zero =>
    intro n w h0 h1 hd
    have hn : n = 1 := by
      have := M.dep_lt n h0
      rw [hd, show ((0 : Nat) : Int) = 0 from rfl, M.p2_zero] at this; omega
    subst hn
    clear hd
    go_enter Tryz.func33, Tryz.ntmps33
    go_wp2
    go_ret
    refine ⟨w.heap.size, 1, rfl, ?_, (Below.refl _ _).alloc (Nat.le_refl _) _⟩
    rw [M.chainL_one]
    exact World.ownsRow_lit w #[.int .u64 1] 1 (Nat.le_refl _) (by decide) rfl
  | succ m ih =>
    intro n w h0 h1 hd
    have hn : 2 ≤ n := by
      have := M.dep_le n h0
      rw [hd] at this
      have := M.p2_mono (show 1 ≤ ((m + 1 : Nat) : Int) by omega)
      have e : M.p2 1 = 2 := by decide
      omega
    have hh : M.dep (n / 2) = m := by rw [M.dep_half hn, hd]; omega
    have hm : m ≤ 63 := by have := M.dep_63 h0 h1; omega
    have IH : Hid (∀ w, Calls Tryz.prog 33 #[.int .u64 (n / 2)] w fun e w' => ∃ g cap, e = .returned (.slice (some ⟨g, 0, none⟩) (m + 1) cap) ∧ w'.ownsRow w.heap.size 23 1 (.slice (some ⟨g, 0, none⟩) (m + 1) cap) (m + 1) (u64s (M.chainL (n / 2))) ∧ Below w.heap.size w w') :=
      fun w => ih (n / 2) w (by omega) (by omega) hh
    have HC : Hid (M.chainL n = M.chainL (n / 2) ++ [n]) := M.chainL_step hn
    obtain ⟨i0, hi, hz0, hz1, hz2⟩ := info_parts Tryz.infoU64
    have g1 : (n == 1) = false := by rw [beq_eq_false_iff_ne]; omega
    clear ih hd hh
    go_enter Tryz.func33, Tryz.ntmps33
    go_wp2_with (first | (go_at_call 33; refine (IH.out _).mono ?_; rintro e w1 ⟨g, cap, rfl, hown, hbel⟩) | (at_builtin; refine wpList_append_own _ rfl _ _ 68 rfl w.heap.size 23 i0 (.int .u64 0) 1 8 Tryz.underlying68 hi hz0 hz1 hz2 rfl (by decide) _ _ _ rfl (hown.alloc _) ⟨w1.heap.size, 0, none⟩ 1 1 [.int .u64 n] rfl rfl ?c1 ?c2 ?c3 ?c4 ?c5 ?_))
    case c1 =>
      intro j u hj
      match j, hj with
      | 0, hj => simp at hj; subst hj; simp [Addr.add]
    case c2 => intro u hu; simp at hu; subst hu; rfl
    case c3 => unfold maxLen; omega
    case c4 => omega
    case c5 => have := hbel.size; simp; omega
    intro v' w2 hown2 hgrow2 _
    obtain ⟨g', cap', hv⟩ := own_shape hown2
    have hb2 : Below w.heap.size w w2 := (hbel.alloc hbel.size _).grown hgrow2 (by have := hbel.size; simp; omega) (fun k hk => by simp [Value.ownBlock] at hk; subst hk; exact (hown.lt g rfl).1)
    rw [hv] at hown2 ⊢
    have hfin : w2.ownsRow w.heap.size 23 1 (.slice (some ⟨g', 0, none⟩) (m + 1 + 1) cap') (m + 1 + 1) (u64s (M.chainL n)) := by
      rw [HC.out]; unfold u64s; rw [List.map_append]; exact hown2
    clear hown2 hgrow2 hown hbel hv
    go_wp2
    go_ret
    exact ⟨g', cap', rfl, hfin, hb2⟩
end Go.Proofs.YthmiekinjfaflaaGreat
namespace Go.Proofs.YthmiekinjfaflaaGreat
open Go.RowKit
theorem own_kept {w w' : World} {base : Nat} {e : TypeId} {size : Nat} {v : Value} {n : Nat} {xs : List Value} (h : w.ownsRow base e size v n xs) (hb : Below w.heap.size w w') : w'.ownsRow base e size v n xs :=
  h.kept (row := none) ⟨hb.os, hb.tape, hb.output, hb.size, fun k hk _ => hb.block k hk⟩ (by cases hv : v.ownBlock <;> simp)
theorem own_lower {w : World} {base b2 : Nat} {e : TypeId} {size : Nat} {v : Value} {n : Nat} {xs : List Value} (h : w.ownsRow base e size v n xs) (hb : b2 ≤ base) : w.ownsRow b2 e size v n xs := by
  refine ⟨h.1, ?_⟩
  rcases h.2 with hn | ⟨g, cap, cur, h1, h2, rest⟩
  · exact .inl hn
  · exact .inr ⟨g, cap, cur, h1, Nat.le_trans hb h2, rest⟩
/-- one round of the leaves: the least, and the greatest, one row deeper -/
theorem M.leaves_round {h n : Int} (hk : M.okB h n = true) (j : Nat) (hj : M.dep n + j ≤ h) :
    0 ≤ n * M.p2 j ∧ 0 ≤ (n + 1) * M.p2 j - 1 ∧ n * M.p2 j < 8589934592 ∧ (n + 1) * M.p2 j - 1 < 8589934592 ∧ (n * M.p2 j < M.p2 h ↔ M.dep n + j < h) ∧
    n * M.p2 ((j + 1 : Nat) : Int) = 2 * (n * M.p2 j) ∧ (n + 1) * M.p2 ((j + 1 : Nat) : Int) - 1 = 2 * ((n + 1) * M.p2 j - 1) + 1 := by
  obtain ⟨k1, k2, k3, k4⟩ := M.ok_of hk
  have h0 := M.dep_nonneg n
  have h1 := M.dep_le n k3
  have h2 := M.dep_lt n k3
  have h3 := M.p2_32 k2
  have h5 := M.p2_pos (j : Int)
  have h4 : M.p2 (M.dep n + j) = M.p2 (M.dep n) * M.p2 j := M.p2_add h0 (by omega)
  have h6 : n * M.p2 j ≥ M.p2 (M.dep n + j) := by rw [h4]; exact Int.mul_le_mul_of_nonneg_right h1 (by omega)
  have h7 : (n + 1) * M.p2 j ≤ 2 * M.p2 (M.dep n + j) := by rw [h4, ← Int.mul_assoc]; exact Int.mul_le_mul_of_nonneg_right (by omega) (by omega)
  have h8 := M.p2_mono hj
  have h9 : (n + 1) * M.p2 j = n * M.p2 j + M.p2 j := by rw [Int.add_mul, Int.one_mul]
  have h10 := M.p2_pos (M.dep n + j)
  have h11 : M.p2 ((j + 1 : Nat) : Int) = 2 * M.p2 j := M.p2_succ (j : Int) (by omega)
  have h12 : n * M.p2 ((j + 1 : Nat) : Int) = 2 * (n * M.p2 j) := by rw [h11, Int.mul_left_comm]
  have h13 : (n + 1) * M.p2 ((j + 1 : Nat) : Int) = 2 * ((n + 1) * M.p2 j) := by rw [h11, Int.mul_left_comm]
  refine ⟨by omega, by omega, by omega, by omega, ?_, h12, by omega⟩
  constructor
  · intro hlt
    by_cases hc : M.dep n + j < h
    · exact hc
    · rw [show M.dep n + (j : Int) = h by omega] at h6; omega
  · intro hlt
    have := M.p2_mono (show M.dep n + j + 1 ≤ h by omega)
    rw [M.p2_succ _ (by omega)] at this
    omega
end Go.Proofs.YthmiekinjfaflaaGreat
namespace Go.Proofs.YthmiekinjfaflaaGreat
open Go.RowKit
theorem M.abv_chain {a b : Int} (k : Nat) (hb : 1 ≤ b) (hk : (k : Int) ≤ M.dep b) : M.up b k = a ↔ M.dep a = k ∧ M.abv a b = true := by
  constructor
  · intro h
    have h1 := M.up_dep hb (show 0 ≤ (k : Int) by omega) hk
    rw [← h]
    exact ⟨h1, M.abv_up hb (by omega) hk⟩
  · intro ⟨h1, h2⟩
    have := (M.abv_iff.1 h2).2
    rw [h1] at this; exact this
set_option maxRecDepth 100000 in
set_option maxHeartbeats 400000 in
theorem is_any (a b : Int) (w : World) (h2 : 1 ≤ b) (h3 : b ≤ 18446744073709551615) :
    Calls Tryz.prog 60 #[.int .u64 a, .int .u64 b] w fun e w' => e = .returned (.bool (M.abv a b)) ∧ Below w.heap.size w w' := by
  obtain ⟨m, hm⟩ : ∃ m : Nat, M.dep b = m := ⟨(M.dep b).toNat, by have := M.dep_nonneg b; omega⟩
  have hm63 := M.dep_63 h2 h3
  have HL : Hid (∀ k : Nat, k ≤ m → (M.chainL b)[k]? = some (M.up b k)) := fun k hk => M.chainL_at b k (by omega)
  have HA : Hid (∀ k : Nat, k ≤ m → (M.up b k = a ↔ M.dep a = k ∧ M.abv a b = true)) := fun k hk => M.abv_chain k h2 (by omega)
  have HD : Hid (M.abv a b = true → M.dep a ≤ m) := fun h => by have := (M.abv_iff.1 h).1; omega
  have hd0 := M.dep_nonneg a
  go_enter Tryz.func60, Tryz.ntmps60
  go_wp2_with (first | (go_at_call 33; refine (chain_any m _ _ (by omega) (by omega) (by omega)).mono ?_; rintro e w1 ⟨g, cap, rfl, hown, hbel⟩))
  go_loop [10] (fun i => ∃ k : Nat, k ≤ m + 1 ∧ i = .int .i64 k ∧ (∀ j : Nat, j < k → ¬ (M.dep a = j ∧ M.abv a b = true))) (fun i => m + 1 - (intOf i).toNat)
  case atStart => exact ⟨0, by omega, rfl, fun j hj => absurd hj (by omega)⟩
  case round =>
    obtain ⟨k, hk, rfl, hno⟩ := hrel
    have HN : Hid _ := hno
    clear hno
    by_cases hlt : k < m + 1
    · have hcl : w1.cell? ⟨g, k, none⟩ = some (.int .u64 (M.up b k)) := by
        rw [hown.cellAt k (by omega)]; unfold u64s; rw [List.getElem?_map, HL.out k (by omega)]; rfl
      by_cases heq : M.up b k = a
      · have hab := ((HA.out k (by omega)).1 heq).2
        have heq' : (M.up b k == a) = true := by rw [beq_iff_eq]; exact heq
        clear hown HL HA HD HN heq
        go_wp2
        go_ret
        exact ⟨rfl, hbel⟩
      · have heq' : (M.up b k == a) = false := by rw [beq_eq_false_iff_ne]; exact heq
        have hnk := fun hh => heq ((HA.out k (by omega)).2 hh)
        have HN2 : Hid (∀ j : Nat, j < k + 1 → ¬ (M.dep a = j ∧ M.abv a b = true)) := by
          intro j hj
          by_cases hjk : j = k
          · subst hjk; exact hnk
          · exact HN.out j (by omega)
        clear hown HL HA HD HN heq hnk
        go_wp2
        go_round
        case rel => exact ⟨k + 1, by omega, by go_num, HN2.out⟩
        case measure => simp [intOf]; omega
    · have hab : M.abv a b = false := by
        cases hx : M.abv a b
        · rfl
        · exfalso
          have h5 := HD.out hx
          exact HN.out (M.dep a).toNat (by omega) ⟨by omega, hx⟩
      clear hown HL HA HD HN
      go_wp2
      go_ret
      exact ⟨rfl, hbel⟩
theorem M.abv_meets {a b : Int} (ha : 1 ≤ a) (hb : 1 ≤ b) : ∃ e : Nat, (e : Int) ≤ M.dep a ∧ M.meet a b = M.up a e ∧ ∀ k : Nat, (k : Int) ≤ M.dep a → M.abv (M.up a k) b = decide (k ≤ e) := by
  obtain ⟨f, f0, f1, f2, f3, f4, f5⟩ := M.meet_spec ha hb
  obtain ⟨e, rfl⟩ := Int.eq_ofNat_of_zero_le f0
  refine ⟨e, f1, f3, fun k hk => ?_⟩
  rw [Bool.eq_iff_iff, M.abv_iff, M.up_dep ha (by omega) hk]
  simp only [decide_eq_true_eq]
  constructor
  · intro ⟨g1, g2⟩
    by_cases hc : k ≤ e
    · exact hc
    · exfalso
      refine f5 (by omega) (by omega) (M.up_eq_mono ha hb (by omega) (show (e : Int) + 1 ≤ k by omega) hk g1 g2.symm)
  · intro hc
    exact ⟨by omega, (M.up_eq_mono ha hb (by omega) (show (k : Int) ≤ e by omega) f1 f2 (f3.symm.trans f4)).symm⟩
theorem M.up_zero {n : Int} (hn : 1 ≤ n) : M.up n 0 = 1 := by
  have h := M.up_bd hn (Int.le_refl 0) (M.dep_nonneg n)
  rw [M.p2_zero] at h; omega
end Go.Proofs.YthmiekinjfaflaaGreat
namespace Go.Proofs.YthmiekinjfaflaaGreat
open Go.RowKit
theorem own_apart {w : World} {b1 b2 : Nat} {e1 e2 : TypeId} {g n1 c1 n2 : Nat} {v : Value} {xs ys : List Value} (h1 : w.ownsRow b1 e1 1 (.slice (some ⟨g, 0, none⟩) n1 c1) n1 xs) (h2 : w.ownsRow b2 e2 1 v n2 ys) (hne : e1 ≠ e2) : v.ownBlock ≠ some g := by
  intro hv
  rcases h2.2 with ⟨h2, _⟩ | ⟨g2, cap2, cur2, h2, _, h3, _⟩
  · rw [h2] at hv; simp [Value.ownBlock] at hv
  · rw [h2] at hv
    simp [Value.ownBlock] at hv
    subst hv
    rcases h1.2 with ⟨h4, _⟩ | ⟨g4, cap4, cur4, h4, _, h5, _⟩
    · simp at h4
    · simp only [Value.slice.injEq, Option.some.injEq, Addr.mk.injEq, and_true] at h4
      obtain ⟨rfl, _⟩ := h4
      rw [h3] at h5
      simp at h5
      exact hne h5.2.symm
/-- on the way down to b: up to a's depth no node is greater than a; behind it each one is, and a is above it -/
theorem M.path_test {a b : Int} (ha : 1 ≤ a) (hb : 1 ≤ b) (hab : M.abv a b = true) (k : Nat) (hk : (k : Int) ≤ M.dep b) :
    ((k : Int) ≤ M.dep a → ¬ a < M.up b k) ∧ (M.dep a < k → a < M.up b k ∧ M.abv a (M.up b k) = true) := by
  obtain ⟨h1, h2⟩ := M.abv_iff.1 hab
  have d0 := M.dep_nonneg a
  constructor
  · intro hka
    have := M.up_up hb (show 0 ≤ (k : Int) by omega) hka h1
    rw [h2] at this
    have := (M.up_bd ha (show 0 ≤ (k : Int) by omega) hka).2.2
    omega
  · intro hka
    have h3 := (M.up_bd hb (show 0 ≤ (k : Int) by omega) hk).1
    have h4 := M.dep_lt a ha
    have h5 := M.p2_mono (show M.dep a + 1 ≤ k by omega)
    rw [M.p2_succ _ d0] at h5
    refine ⟨by omega, ?_⟩
    rw [M.abv_iff, M.up_dep hb (by omega) hk, M.up_up hb d0 (by omega) hk]
    exact ⟨by omega, h2⟩
theorem M.pathL_take {a b : Int} (k : Nat) (d : Nat) (hd : M.dep a = d) (hk : d < k) (hkb : (k : Int) ≤ M.dep b) :
    (M.pathL a b).take (k + 1 - (d + 1)) = (M.pathL a b).take (k - (d + 1)) ++ [M.up b k % 2] := by
  have hl : k - (d + 1) < (M.pathL a b).length := by rw [M.pathL_length]; omega
  rw [show k + 1 - (d + 1) = (k - (d + 1)) + 1 by omega, List.take_succ_eq_append_getElem hl, M.pathL_get]
  congr 4
  omega
set_option maxRecDepth 100000 in
set_option maxHeartbeats 1000000 in
theorem rpath_yes (h a b : Int) (w : World) (hka : M.okB h a = true) (hkb : M.okB h b = true) (hab : M.abv a b = true) :
    Calls Tryz.prog 40 #[.int .i64 h, .int .u64 a, .int .u64 b] w fun e w' => ∃ v, e = .returned (.tuple #[v, .int .i64 0]) ∧ w'.ownsRow w.heap.size 3 1 v (M.pathL a b).length (ints (M.pathL a b)) ∧ Below w.heap.size w w' := by
  have a1 := (M.ok_of hka).2.2.1
  have b1 := (M.ok_of hkb).2.2.1
  have a2 := M.ok_lt hka
  have b2 := M.ok_lt hkb
  have k3 := (M.ok_dep hkb).2
  have k4 := (M.ok_of hkb).2.1
  obtain ⟨m, hm⟩ : ∃ m : Nat, M.dep b = m := ⟨(M.dep b).toNat, by have := M.dep_nonneg b; omega⟩
  obtain ⟨d, hd⟩ : ∃ d : Nat, M.dep a = d := ⟨(M.dep a).toNat, by have := M.dep_nonneg a; omega⟩
  have hdm : d ≤ m := by have := (M.abv_iff.1 hab).1; omega
  have HL : Hid (∀ k : Nat, k ≤ m → (M.chainL b)[k]? = some (M.up b k)) := fun k hk => M.chainL_at b k (by omega)
  have HT : Hid (∀ k : Nat, k ≤ m → ((k : Int) ≤ M.dep a → ¬ a < M.up b k) ∧ (M.dep a < k → a < M.up b k ∧ M.abv a (M.up b k) = true)) := fun k hk => M.path_test a1 b1 hab k (by omega)
  have HP : Hid (∀ k : Nat, d < k → k ≤ m → (M.pathL a b).take (k + 1 - (d + 1)) = (M.pathL a b).take (k - (d + 1)) ++ [M.up b k % 2]) := fun k h1 h2 => M.pathL_take k d hd h1 (by omega)
  have HU : Hid (∀ k : Nat, k ≤ m → 1 ≤ M.up b k ∧ M.up b k ≤ b) := fun k hk => ⟨M.up_pos b1 (by omega) (by omega), (M.up_bd b1 (show 0 ≤ (k : Int) by omega) (by omega)).2.2⟩
  have HLen : Hid ((M.pathL a b).length = m - d) := by show _ = _; rw [M.pathL_length]; omega
  have HM : Hid (M.dep b = m) := hm
  have HD : Hid (M.dep a = d) := hd
  obtain ⟨i0, hi, hz0, hz1, hz2⟩ := info_parts Tryz.infoInt
  have hm32 : m ≤ 32 := by omega
  clear hm hd
  go_enter Tryz.func40, Tryz.ntmps40
  go_wp2_with (first | (go_at_call 55; refine (may_any _ _ _ (by omega) (by omega)).mono ?_; rintro e w' ⟨rfl, hw⟩; subst w') | (go_at_call 60; refine (is_any _ _ _ (by omega) (by omega)).mono ?_; rintro e w1 ⟨rfl, hb1⟩) | (go_at_call 33; refine (chain_any m _ _ (by omega) (by omega) HM.out).mono ?_; rintro e w2 ⟨g, cap, rfl, hown, hbel⟩))
  have hown0 : w2.ownsRow w.heap.size 23 1 (.slice (some ⟨g, 0, none⟩) (m + 1) cap) (m + 1) (u64s (M.chainL b)) := own_lower hown hb1.size
  have hbel0 : Below w.heap.size w w2 := below_trans hb1 hbel
  clear hown hbel hb1
  go_loopw [28, 8] (fun i t wr => ∃ k : Nat, k ≤ m + 1 ∧ i = .int .i64 k ∧ wr.ownsRow w.heap.size 23 1 (.slice (some ⟨g, 0, none⟩) (m + 1) cap) (m + 1) (u64s (M.chainL b)) ∧ wr.ownsRow w.heap.size 3 1 t (k - (d + 1)) (ints ((M.pathL a b).take (k - (d + 1)))) ∧ Below w.heap.size w wr) (fun i _ _ => m + 1 - (intOf i).toNat)
  case atStart => exact ⟨0, by omega, rfl, hown0, by rw [show 0 - (d + 1) = 0 by omega]; exact World.ownsRow_nil _ _ _ _, hbel0⟩
  case round =>
    clear hown0 hbel0
    obtain ⟨k, hk, rfl, hown, hout, hbel⟩ := hrel
    by_cases hlt : k < m + 1
    · have hcl : wr.cell? ⟨g, k, none⟩ = some (.int .u64 (M.up b k)) := by
        rw [hown.cellAt k (by omega)]; unfold u64s; rw [List.getElem?_map, HL.out k (by omega)]; rfl
      obtain ⟨hu, hu2⟩ := HU.out k (by omega)
      obtain ⟨t1, t2⟩ := HT.out k (by omega)
      by_cases hc : k ≤ d
      · have hg := t1 (by rw [HD.out]; omega)
        have HO : Hid _ := hown
        have HOut : Hid _ := hout
        clear hown hout HL HT HU t1 t2 HP
        generalize M.up b (k : Int) = x at *
        go_wp2
        go_roundw
        case rel => exact ⟨k + 1, by omega, by go_num, HO.out, by rw [show k + 1 - (d + 1) = k - (d + 1) by omega]; exact HOut.out, hbel⟩
        case measure => simp [intOf]; omega
      · obtain ⟨hg, hA⟩ := t2 (by rw [HD.out]; omega)
        have HO : Hid (wr.ownsRow w.heap.size 23 1 (.slice (some ⟨g, 0, none⟩) (m + 1) cap) (m + 1) (u64s (M.chainL b))) := hown
        have HPk : Hid _ := HP.out k (by omega) (by omega)
        clear hown HL HT HU t1 t2 HP
        generalize M.up b (k : Int) = x at *
        go_wp2_with (first | (go_at_call 60; refine (is_any _ _ _ (by omega) (by omega)).mono ?_; rintro e w3 ⟨rfl, hb3⟩; have hout3 := own_kept hout hb3) | (at_builtin; refine wpList_append_own _ rfl _ _ 65 rfl w.heap.size 3 i0 (.int .i64 0) 1 8 Tryz.underlying65 hi hz0 hz1 hz2 rfl (by decide) _ _ _ rfl (hout3.alloc _) ⟨w3.heap.size, 0, none⟩ 1 1 [.int .i64 (x % 2)] rfl rfl ?c1 ?c2 ?c3 ?c4 ?c5 ?_))
        case c1 =>
          intro j u hj
          match j, hj with
          | 0, hj => simp at hj; subst hj; simp [Addr.add]
        case c2 => intro u hu; simp at hu; subst hu; rfl
        case c3 => unfold maxLen; omega
        case c4 => omega
        case c5 => have := hbel.size; have := hb3.size; simp; omega
        intro v' w4 hown4 hgrow4 _
        have hb4 : Below w.heap.size w w4 := ((below_trans hbel hb3).alloc (below_trans hbel hb3).size _).grown hgrow4 (by have := (below_trans hbel hb3).size; simp; omega) (fun k hk => (hout3.lt k hk).1)
        have hch : w4.ownsRow w.heap.size 23 1 (.slice (some ⟨g, 0, none⟩) (m + 1) cap) (m + 1) (u64s (M.chainL b)) :=
          ((own_kept HO.out hb3).alloc _).kept hgrow4 (.inr (fun he => own_apart (own_kept HO.out hb3) hout3 (by decide) he.symm))
        have HOut : Hid (w4.ownsRow w.heap.size 3 1 v' (k + 1 - (d + 1)) (ints ((M.pathL a b).take (k + 1 - (d + 1))))) := by
          show World.ownsRow _ _ _ _ _ _ _
          rw [HPk.out, show k + 1 - (d + 1) = k - (d + 1) + 1 by omega]; unfold ints; rw [List.map_append, List.map_take]; exact hown4
        have HCh : Hid _ := hch
        clear hown4 hgrow4 hout3 hout hch
        go_wp2
        go_roundw
        case rel => exact ⟨k + 1, by omega, by go_num, HCh.out, HOut.out, hb4⟩
        case measure => simp [intOf]; omega
    · obtain rfl : k = m + 1 := by omega
      have hfin := hout
      rw [show m + 1 - (d + 1) = (M.pathL a b).length by rw [HLen.out]; omega, List.take_length] at hfin
      clear hown hout HL HT HU HP
      go_wp2
      go_ret2
      exact ⟨_, rfl, hfin, hbel⟩
end Go.Proofs.YthmiekinjfaflaaGreat
namespace Go.Proofs.YthmiekinjfaflaaGreat
open Go.RowKit
set_option maxRecDepth 100000 in
set_option maxHeartbeats 400000 in
theorem rpath_no (h a b : Int) (w : World) (h0 : 0 ≤ a) (h1 : a ≤ 18446744073709551615) (h2 : 0 ≤ b) (h3 : b ≤ 18446744073709551615) (hp : M.pathE h a b ≠ 0) :
    Calls Tryz.prog 40 #[.int .i64 h, .int .u64 a, .int .u64 b] w fun e w' => e = .returned (.tuple #[.slice none 0 0, .int .i64 (M.pathE h a b)]) ∧ Below w.heap.size w w' := by
  cases hka : M.okB h a
  · have P : M.pathE h a b = 1 := by unfold M.pathE; rw [hka]; rfl
    clear hp
    go_enter Tryz.func40, Tryz.ntmps40
    go_wp2_with (first | (go_at_call 55; refine (may_any _ _ _ (by omega) (by omega)).mono ?_; rintro e w' ⟨rfl, hw⟩; subst w'))
    go_ret2
    rw [P]; exact ⟨rfl, Below.refl _ _⟩
  · cases hkb : M.okB h b
    · have P : M.pathE h a b = 1 := by unfold M.pathE; rw [hka, hkb]; rfl
      clear hp
      go_enter Tryz.func40, Tryz.ntmps40
      go_wp2_with (first | (go_at_call 55; refine (may_any _ _ _ (by omega) (by omega)).mono ?_; rintro e w' ⟨rfl, hw⟩; subst w'))
      go_ret2
      rw [P]; exact ⟨rfl, Below.refl _ _⟩
    · have k2 := (M.ok_of hkb).2.2.1
      have hA : M.abv a b = false := by
        cases hx : M.abv a b
        · rfl
        · unfold M.pathE at hp; rw [hka, hkb, hx] at hp; exact absurd rfl hp
      have P : M.pathE h a b = 4 := by unfold M.pathE; rw [hka, hkb, hA]; rfl
      clear hp
      go_enter Tryz.func40, Tryz.ntmps40
      go_wp2_with (first | (go_at_call 55; refine (may_any _ _ _ (by omega) (by omega)).mono ?_; rintro e w' ⟨rfl, hw⟩; subst w') | (go_at_call 60; refine (is_any _ _ _ (by omega) (by omega)).mono ?_; rintro e w1 ⟨rfl, hb1⟩))
      go_ret2
      rw [P]; exact ⟨rfl, hb1⟩
/-- what is owned is a slice of that length; each cell lies there -/
theorem own_view {w : World} {base : Nat} {e : TypeId} {v : Value} {n : Nat} {xs : List Value} (h : w.ownsRow base e 1 v n xs) :
    ∃ ao cap, v = .slice ao n cap ∧ (0 < n → ∃ g, ao = some ⟨g, 0, none⟩ ∧ ∀ j, j < n → w.cell? ⟨g, j, none⟩ = xs[j]?) := by
  rcases h.2 with ⟨h1, h2⟩ | ⟨g, cap, cur, h1, h2⟩
  · subst h2; exact ⟨none, 0, h1, fun h => absurd h (by omega)⟩
  · refine ⟨some ⟨g, 0, none⟩, cap, h1, fun _ => ⟨g, rfl, fun j hj => ?_⟩⟩
    subst h1
    exact h.cellAt j (by omega)
end Go.Proofs.YthmiekinjfaflaaGreat
