/-
  What the document's own answers Path and SameInts come to. Conditions: each theorem's own premises.
-/
import Derived.Test.YtonjdnjeemcilaaR5
namespace Go.Proofs.Ytonjdnjeemcilaa
open Go.RowKit
set_option maxHeartbeats 400000 in
theorem rpath_no (h a b : Int) (w : World) (h0 : 0 ≤ a) (h1 : a ≤ 18446744073709551615) (h2 : 0 ≤ b) (h3 : b ≤ 18446744073709551615) (hp : M.pathE h a b ≠ 0) :
    Calls Try.prog 30 #[.int .i64 h, .int .u64 a, .int .u64 b] w fun e w' => e = .returned (.tuple #[.slice none 0 0, .int .i64 (M.pathE h a b)]) ∧ Below w.heap.size w w' := by
  cases hka : M.okB h a
  · have P : M.pathE h a b = 1 := by unfold M.pathE; rw [hka]; rfl
    clear hp
    go_enter Try.func30, Try.ntmps30
    go_wp2_with (first | (go_at_call 36; refine (may_any _ _ _ (by omega) (by omega)).mono ?_; rintro e w' ⟨rfl, hw⟩; subst w'))
    go_ret2
    rw [P]; exact ⟨rfl, Below.refl _ _⟩
  · cases hkb : M.okB h b
    · have P : M.pathE h a b = 1 := by unfold M.pathE; rw [hka, hkb]; rfl
      clear hp
      go_enter Try.func30, Try.ntmps30
      go_wp2_with (first | (go_at_call 36; refine (may_any _ _ _ (by omega) (by omega)).mono ?_; rintro e w' ⟨rfl, hw⟩; subst w'))
      go_ret2
      rw [P]; exact ⟨rfl, Below.refl _ _⟩
    · have k2 := (M.ok_of hkb).2.2.1
      have hA : M.abv a b = false := by
        cases hx : M.abv a b
        · rfl
        · unfold M.pathE at hp; rw [hka, hkb, hx] at hp; exact absurd rfl hp
      have P : M.pathE h a b = 4 := by unfold M.pathE; rw [hka, hkb, hA]; rfl
      clear hp
      go_enter Try.func30, Try.ntmps30
      go_wp2_with (first | (go_at_call 36; refine (may_any _ _ _ (by omega) (by omega)).mono ?_; rintro e w' ⟨rfl, hw⟩; subst w') | (go_at_call 42; refine (is_any _ _ _ (by omega) (by omega)).mono ?_; rintro e w1 ⟨rfl, hb1⟩))
      go_ret2
      rw [P]; exact ⟨rfl, hb1⟩
/-- what is owned is a slice of that length; each cell lies there -/
theorem own_view {w : World} {base : Nat} {e : TypeId} {v : Value} {n : Nat} {xs : List Value} (h : w.ownsRow base e 1 v n xs) :
    ∃ ao cap, v = .slice ao n cap ∧ (0 < n → ∃ g, ao = some ⟨g, 0, none⟩ ∧ ∀ j, j < n → w.cell? ⟨g, j, none⟩ = xs[j]?) := by
  rcases h.2 with ⟨h1, h2⟩ | ⟨g, cap, cur, h1, h2⟩
  · subst h2; exact ⟨none, 0, h1, fun h => absurd h (by omega)⟩
  · refine ⟨some ⟨g, 0, none⟩, cap, h1, fun _ => ⟨g, rfl, fun j hj => ?_⟩⟩
    subst h1
    exact h.cellAt j (by omega)
set_option maxRecDepth 100000 in
set_option maxHeartbeats 400000 in
theorem sameInts_yes (L : List Int) (v1 v2 : Value) (b1 b2 n : Nat) (w : World) (hn : n ≤ 1000) (o1 : w.ownsRow b1 3 1 v1 n (ints L)) (o2 : w.ownsRow b2 3 1 v2 n (ints L)) :
    Calls Try.prog 31 #[v1, v2] w fun e w' => e = .returned (.bool true) ∧ Below w.heap.size w w' := by
  obtain ⟨a1, c1, rfl, q1⟩ := own_view o1
  obtain ⟨a2, c2, rfl, q2⟩ := own_view o2
  have hl : L.length = n := by have := o1.1; simpa using this
  clear o1 o2
  by_cases h0 : n = 0
  · subst h0
    clear q1 q2
    go_enter Try.func31, Try.ntmps31
    go_wp2
    refine wp_loop_rounds 1 ?_
    rw [rounds_succ]
    go_wp2
    go_ret
    exact ⟨rfl, Below.refl _ _⟩
  · obtain ⟨g1, rfl, r1⟩ := q1 (by omega)
    obtain ⟨g2, rfl, r2⟩ := q2 (by omega)
    have Q : Hid (∀ j, j < n → ∃ x, w.cell? ⟨g1, j, none⟩ = some (.int .i64 x) ∧ w.cell? ⟨g2, j, none⟩ = some (.int .i64 x)) := by
      intro j hj
      have e : (ints L)[j]? = some (.int .i64 L[j]) := by unfold ints; rw [List.getElem?_map, List.getElem?_eq_getElem (by omega)]; rfl
      exact ⟨L[j], by rw [r1 j hj, e], by rw [r2 j hj, e]⟩
    clear q1 q2 r1 r2 hl
    go_enter Try.func31, Try.ntmps31
    go_wp2
    go_loopw [13] (fun i wr => ∃ k d : Nat, k ≤ n ∧ i = .int .i64 k ∧ wr = w.drewN d) (fun i _ => n - (intOf i).toNat)
    case atStart => exact ⟨0, 0, by omega, rfl, rfl⟩
    case round =>
      obtain ⟨k, d, hk, rfl, rfl⟩ := hrel
      by_cases hlt : k < n
      · obtain ⟨x, x1, x2⟩ := Q.out k hlt
        have y1 : (w.drewN d).cell? ⟨g1, k, none⟩ = some (.int .i64 x) := x1
        have y2 : (w.drewN d).cell? ⟨g2, k, none⟩ = some (.int .i64 x) := x2
        clear Q
        go_wp2
        go_quiet (fail)
        go_wp2
        go_roundw
        case rel => exact ⟨k + 1, d + nq, by omega, by go_num, rfl⟩
        case measure => simp [intOf]; omega
      · go_wp2
        go_ret
        exact ⟨rfl, below_drewN (Below.refl _ _) _⟩
end Go.Proofs.Ytonjdnjeemcilaa
