/-
  What the document's own answers power, May, Check, Leaf, Child and Other of layer 1 come to. Conditions: each theorem's own premises.
-/
import Derived.Test.YtomhccendbnamaaDoorZM3
import Derived.Deep.QuietTactic
import Derived.BigQuiet
namespace Go.Proofs.YtomhccendbnamaaDoor
open Go.RowKit
theorem M.p2_33' {h : Int} (hh : h ≤ 33) : M.p2 h ≤ 8589934592 := by
  have := M.p2_mono hh
  rw [M.p2_33] at this; exact this
end Go.Proofs.YtomhccendbnamaaDoor
namespace Go.Proofs.YtomhccendbnamaaDoor
open Go.RowKit
namespace M
/-- all nodes above n, from the first one on -/
def chainL (n : Int) : List Int := (List.range ((dep n).toNat + 1)).map fun (k : Nat) => up n k
theorem chainL_length (n : Int) : (chainL n).length = (dep n).toNat + 1 := by simp [chainL]
theorem chainL_at (n : Int) (k : Nat) (h : k < (dep n).toNat + 1) : (chainL n)[k]? = some (up n k) := by
  simp [chainL, h]
theorem chainL_one : chainL 1 = [1] := by decide +kernel
theorem dep_half {n : Int} (hn : 2 ≤ n) : dep (n / 2) = dep n - 1 := by
  obtain ⟨_, _, _, _, _, o6⟩ := oth_facts hn
  rw [← up_one, up_dep (by omega) (by omega) (by omega)]
theorem chainL_step {n : Int} (hn : 2 ≤ n) : chainL n = chainL (n / 2) ++ [n] := by
  obtain ⟨_, _, _, _, _, o6⟩ := oth_facts hn
  have hd := dep_half hn
  unfold chainL
  rw [hd, show (dep n).toNat + 1 = ((dep n - 1).toNat + 1) + 1 by omega, List.range_succ, List.map_append]
  congr 1
  · apply List.map_congr_left
    intro k hk
    have hk2 := List.mem_range.1 hk
    rw [← up_one, up_up (by omega) (by omega) (by omega) (by omega)]
  · simp only [List.map_cons, List.map_nil]
    congr 1
    rw [show (((dep n - 1).toNat + 1 : Nat) : Int) = dep n by omega, up_self]
end M
set_option maxRecDepth 100000 in
theorem Tryd.infoU64 : (Tryd.prog.info? 23).map (fun i => (i.zero, i.size, i.bytes)) = some (some (.int .u64 0), 1, 8) := by kernel_rfl
abbrev u64s (l : List Int) : List Value := l.map (Value.int .u64)
theorem own_shape {w : World} {base : Nat} {e : TypeId} {v : Value} {k : Nat} {xs : List Value} (h : w.ownsRow base e 1 v (k + 1) xs) : ∃ g cap, v = .slice (some ⟨g, 0, none⟩) (k + 1) cap := by
  rcases h.2 with ⟨_, h2⟩ | ⟨g, cap, cur, h2, _⟩
  · omega
  · exact ⟨g, cap, h2⟩
end Go.Proofs.YtomhccendbnamaaDoor
namespace Go.Proofs.YtomhccendbnamaaDoor
open Go.RowKit
theorem own_kept {w w' : World} {base : Nat} {e : TypeId} {size : Nat} {v : Value} {n : Nat} {xs : List Value} (h : w.ownsRow base e size v n xs) (hb : Below w.heap.size w w') : w'.ownsRow base e size v n xs :=
  h.kept (row := none) ⟨hb.os, hb.tape, hb.output, hb.size, fun k hk _ => hb.block k hk⟩ (by cases hv : v.ownBlock <;> simp)
theorem own_lower {w : World} {base b2 : Nat} {e : TypeId} {size : Nat} {v : Value} {n : Nat} {xs : List Value} (h : w.ownsRow base e size v n xs) (hb : b2 ≤ base) : w.ownsRow b2 e size v n xs := by
  refine ⟨h.1, ?_⟩
  rcases h.2 with hn | ⟨g, cap, cur, h1, h2, rest⟩
  · exact .inl hn
  · exact .inr ⟨g, cap, cur, h1, Nat.le_trans hb h2, rest⟩
/-- one round of the leaves: the least, and the greatest, one row deeper -/
theorem M.leaves_round {h n : Int} (hk : M.okB h n = true) (j : Nat) (hj : M.dep n + j ≤ h) :
    0 ≤ n * M.p2 j ∧ 0 ≤ (n + 1) * M.p2 j - 1 ∧ n * M.p2 j < 8589934592 ∧ (n + 1) * M.p2 j - 1 < 8589934592 ∧ (n * M.p2 j < M.p2 h ↔ M.dep n + j < h) ∧
    n * M.p2 ((j + 1 : Nat) : Int) = 2 * (n * M.p2 j) ∧ (n + 1) * M.p2 ((j + 1 : Nat) : Int) - 1 = 2 * ((n + 1) * M.p2 j - 1) + 1 := by
  obtain ⟨k1, k2, k3, k4⟩ := M.ok_of hk
  have h0 := M.dep_nonneg n
  have h1 := M.dep_le n k3
  have h2 := M.dep_lt n k3
  have h3 := M.p2_32 k2
  have h5 := M.p2_pos (j : Int)
  have h4 : M.p2 (M.dep n + j) = M.p2 (M.dep n) * M.p2 j := M.p2_add h0 (by omega)
  have h6 : n * M.p2 j ≥ M.p2 (M.dep n + j) := by rw [h4]; exact Int.mul_le_mul_of_nonneg_right h1 (by omega)
  have h7 : (n + 1) * M.p2 j ≤ 2 * M.p2 (M.dep n + j) := by rw [h4, ← Int.mul_assoc]; exact Int.mul_le_mul_of_nonneg_right (by omega) (by omega)
  have h8 := M.p2_mono hj
  have h9 : (n + 1) * M.p2 j = n * M.p2 j + M.p2 j := by rw [Int.add_mul, Int.one_mul]
  have h10 := M.p2_pos (M.dep n + j)
  have h11 : M.p2 ((j + 1 : Nat) : Int) = 2 * M.p2 j := M.p2_succ (j : Int) (by omega)
  have h12 : n * M.p2 ((j + 1 : Nat) : Int) = 2 * (n * M.p2 j) := by rw [h11, Int.mul_left_comm]
  have h13 : (n + 1) * M.p2 ((j + 1 : Nat) : Int) = 2 * ((n + 1) * M.p2 j) := by rw [h11, Int.mul_left_comm]
  refine ⟨by omega, by omega, by omega, by omega, ?_, h12, by omega⟩
  constructor
  · intro hlt
    by_cases hc : M.dep n + j < h
    · exact hc
    · rw [show M.dep n + (j : Int) = h by omega] at h6; omega
  · intro hlt
    have := M.p2_mono (show M.dep n + j + 1 ≤ h by omega)
    rw [M.p2_succ _ (by omega)] at this
    omega
end Go.Proofs.YtomhccendbnamaaDoor
namespace Go.Proofs.YtomhccendbnamaaDoor
open Go.RowKit
theorem M.abv_chain {a b : Int} (k : Nat) (hb : 1 ≤ b) (hk : (k : Int) ≤ M.dep b) : M.up b k = a ↔ M.dep a = k ∧ M.abv a b = true := by
  constructor
  · intro h
    have h1 := M.up_dep hb (show 0 ≤ (k : Int) by omega) hk
    rw [← h]
    exact ⟨h1, M.abv_up hb (by omega) hk⟩
  · intro ⟨h1, h2⟩
    have := (M.abv_iff.1 h2).2
    rw [h1] at this; exact this
theorem M.abv_meets {a b : Int} (ha : 1 ≤ a) (hb : 1 ≤ b) : ∃ e : Nat, (e : Int) ≤ M.dep a ∧ M.meet a b = M.up a e ∧ ∀ k : Nat, (k : Int) ≤ M.dep a → M.abv (M.up a k) b = decide (k ≤ e) := by
  obtain ⟨f, f0, f1, f2, f3, f4, f5⟩ := M.meet_spec ha hb
  obtain ⟨e, rfl⟩ := Int.eq_ofNat_of_zero_le f0
  refine ⟨e, f1, f3, fun k hk => ?_⟩
  rw [Bool.eq_iff_iff, M.abv_iff, M.up_dep ha (by omega) hk]
  simp only [decide_eq_true_eq]
  constructor
  · intro ⟨g1, g2⟩
    by_cases hc : k ≤ e
    · exact hc
    · exfalso
      refine f5 (by omega) (by omega) (M.up_eq_mono ha hb (by omega) (show (e : Int) + 1 ≤ k by omega) hk g1 g2.symm)
  · intro hc
    exact ⟨by omega, (M.up_eq_mono ha hb (by omega) (show (k : Int) ≤ e by omega) f1 f2 (f3.symm.trans f4)).symm⟩
theorem M.up_zero {n : Int} (hn : 1 ≤ n) : M.up n 0 = 1 := by
  have h := M.up_bd hn (Int.le_refl 0) (M.dep_nonneg n)
  rw [M.p2_zero] at h; omega
end Go.Proofs.YtomhccendbnamaaDoor
namespace Go.Proofs.YtomhccendbnamaaDoor
open Go.RowKit
theorem own_apart {w : World} {b1 b2 : Nat} {e1 e2 : TypeId} {g n1 c1 n2 : Nat} {v : Value} {xs ys : List Value} (h1 : w.ownsRow b1 e1 1 (.slice (some ⟨g, 0, none⟩) n1 c1) n1 xs) (h2 : w.ownsRow b2 e2 1 v n2 ys) (hne : e1 ≠ e2) : v.ownBlock ≠ some g := by
  intro hv
  rcases h2.2 with ⟨h2, _⟩ | ⟨g2, cap2, cur2, h2, _, h3, _⟩
  · rw [h2] at hv; simp [Value.ownBlock] at hv
  · rw [h2] at hv
    simp [Value.ownBlock] at hv
    subst hv
    rcases h1.2 with ⟨h4, _⟩ | ⟨g4, cap4, cur4, h4, _, h5, _⟩
    · simp at h4
    · simp only [Value.slice.injEq, Option.some.injEq, Addr.mk.injEq, and_true] at h4
      obtain ⟨rfl, _⟩ := h4
      rw [h3] at h5
      simp at h5
      exact hne h5.2.symm
/-- on the way down to b: up to a's depth no node is greater than a; behind it each one is, and a is above it -/
theorem M.path_test {a b : Int} (ha : 1 ≤ a) (hb : 1 ≤ b) (hab : M.abv a b = true) (k : Nat) (hk : (k : Int) ≤ M.dep b) :
    ((k : Int) ≤ M.dep a → ¬ a < M.up b k) ∧ (M.dep a < k → a < M.up b k ∧ M.abv a (M.up b k) = true) := by
  obtain ⟨h1, h2⟩ := M.abv_iff.1 hab
  have d0 := M.dep_nonneg a
  constructor
  · intro hka
    have := M.up_up hb (show 0 ≤ (k : Int) by omega) hka h1
    rw [h2] at this
    have := (M.up_bd ha (show 0 ≤ (k : Int) by omega) hka).2.2
    omega
  · intro hka
    have h3 := (M.up_bd hb (show 0 ≤ (k : Int) by omega) hk).1
    have h4 := M.dep_lt a ha
    have h5 := M.p2_mono (show M.dep a + 1 ≤ k by omega)
    rw [M.p2_succ _ d0] at h5
    refine ⟨by omega, ?_⟩
    rw [M.abv_iff, M.up_dep hb (by omega) hk, M.up_up hb d0 (by omega) hk]
    exact ⟨by omega, h2⟩
theorem M.pathL_take {a b : Int} (k : Nat) (d : Nat) (hd : M.dep a = d) (hk : d < k) (hkb : (k : Int) ≤ M.dep b) :
    (M.pathL a b).take (k + 1 - (d + 1)) = (M.pathL a b).take (k - (d + 1)) ++ [M.up b k % 2] := by
  have hl : k - (d + 1) < (M.pathL a b).length := by rw [M.pathL_length]; omega
  rw [show k + 1 - (d + 1) = (k - (d + 1)) + 1 by omega, List.take_succ_eq_append_getElem hl, M.pathL_get]
  congr 4
  omega
end Go.Proofs.YtomhccendbnamaaDoor
namespace Go.Proofs.YtomhccendbnamaaDoor
open Go.RowKit
/-- what is owned is a slice of that length; each cell lies there -/
theorem own_view {w : World} {base : Nat} {e : TypeId} {v : Value} {n : Nat} {xs : List Value} (h : w.ownsRow base e 1 v n xs) :
    ∃ ao cap, v = .slice ao n cap ∧ (0 < n → ∃ g, ao = some ⟨g, 0, none⟩ ∧ ∀ j, j < n → w.cell? ⟨g, j, none⟩ = xs[j]?) := by
  rcases h.2 with ⟨h1, h2⟩ | ⟨g, cap, cur, h1, h2⟩
  · subst h2; exact ⟨none, 0, h1, fun h => absurd h (by omega)⟩
  · refine ⟨some ⟨g, 0, none⟩, cap, h1, fun _ => ⟨g, rfl, fun j hj => ?_⟩⟩
    subst h1
    exact h.cellAt j (by omega)
end Go.Proofs.YtomhccendbnamaaDoor
