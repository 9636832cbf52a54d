/-
  What node.Path answers at every input. Conditions: the numbers fit their kinds.
-/
import Derived.Test.YtonjdnjeemcilaaW4
import Derived.Test.YtonjdnjeemcilaaM3
import Derived.Test.YtonjdnjeemcilaaBel
namespace Go.Proofs.Ytonjdnjeemcilaa
open Go.RowKit
theorem Try.infoInt : (Try.prog.info? 3).map (fun i => (i.zero, i.size, i.bytes)) = some (some (.int .i64 0), 1, 8) := by kernel_rfl
/-- the cells of a list of ints -/
abbrev ints (l : List Int) : List Value := l.map (Value.int .i64)
/-- the row behind k rounds -/
abbrev half (l : List Int) (k : Nat) : List Value := ints (l.take k ++ List.replicate (l.length - k) 0)
theorem half_set (l : List Int) (k : Nat) (h : k < l.length) : (half l k).set k (.int .i64 l[k]) = half l (k + 1) := by
  unfold half ints
  rw [← List.map_set]
  congr 1
  rw [List.set_append, if_neg (by simp; omega)]
  simp only [List.length_take]
  rw [Nat.min_eq_left (by omega), Nat.sub_self, show l.length - k = (l.length - (k + 1)) + 1 by omega, List.replicate_succ, List.set_cons_zero,
    List.take_succ_eq_append_getElem h, List.append_assoc]
  rfl
set_option maxRecDepth 100000 in
set_option maxHeartbeats 1000000 in
theorem path_yes (h a b : Int) (w : World) (hka : M.okB h a = true) (hkb : M.okB h b = true) (hab : M.abv a b = true) :
    Calls Try.prog 29 #[.int .i64 h, .int .u64 a, .int .u64 b] w fun e w' => e = .returned (.tuple #[.slice (some ⟨w.heap.size, 0, none⟩) (M.pathL a b).length (M.pathL a b).length, .int .i64 0]) ∧ w'.ownsRow w.heap.size 3 1 (.slice (some ⟨w.heap.size, 0, none⟩) (M.pathL a b).length (M.pathL a b).length) (M.pathL a b).length (ints (M.pathL a b)) ∧ Below w.heap.size w w' := by
  have E := M.eBoth_ok hka hkb
  have a1 := (M.ok_of hka).2.2.1
  have b1 := (M.ok_of hkb).2.2.1
  have a2 := M.ok_lt hka
  have b2 := M.ok_lt hkb
  have d1 := M.dep_nonneg a
  have d2 := (M.abv_iff.1 hab).1
  have d3 := (M.ok_dep hkb).2
  have d4 := (M.ok_of hkb).2.1
  clear hka hkb
  obtain ⟨n, hn⟩ : ∃ n : Nat, M.dep b = M.dep a + n := ⟨(M.dep b - M.dep a).toNat, by omega⟩
  obtain ⟨i0, hi, hz0, hz1, hz2⟩ := info_parts Try.infoInt
  have Hn : Hid (M.dep b = M.dep a + n) := hn
  clear hn
  go_enter Try.func29, Try.ntmps29
  go_wp2_with (first | (go_at_call 40; refine (checkBoth_any _ _ _ _ (by omega) (by omega) (by omega) (by omega)).mono ?_; rintro e w' ⟨rfl, hw⟩; subst w') | (go_at_call 41; refine (isAbove_any _ _ _ (by omega) (by omega) (by omega) (by omega)).mono ?_; rintro e w' ⟨rfl, hw⟩; subst w') | (go_at_call 35; refine (depthOf_any _ _ (by omega) (by omega)).mono ?_; rintro e w' ⟨rfl, hw⟩; subst w') | (at_make; refine wpList_make_full _ rfl _ _ 39 rfl w.heap.size 3 i0 (.int .i64 0) 1 Try.underlying39 hi hz0 hz1 _ _ _ _ n rfl rfl (by have := Hn.out; omega) (by have := Hn.out; omega) ?b2 ?b3 ?b4 ?_))
  case b2 => rw [hz2]; have := Hn.out; omega
  case b3 => unfold maxLen; have := Hn.out; omega
  case b4 => exact Nat.le_refl _
  intro w1 hown hgrow
  have hb1 : Below w.heap.size w w1 := (Below.refl _ w).grown hgrow (Nat.le_refl _) (fun k hk => by cases hk)
  have hl : (M.pathL a b).length = n := by rw [M.pathL_length]; have := Hn.out; omega
  rw [toList_madeCells_one] at hown
  have hown0 : w1.ownsRow w.heap.size 3 1 (Value.slice (some ⟨w.heap.size, 0, none⟩) n n) n (half (M.pathL a b) 0) := by
    unfold half ints; rw [hl]; simpa using hown
  have Hl : Hid ((M.pathL a b).length = n) := hl
  clear hown hgrow hl
  go_wp2
  go_loopw [32] (fun i wr => ∃ k : Nat, k ≤ n ∧ i = .int .i64 k ∧ wr.ownsRow w.heap.size 3 1 (Value.slice (some ⟨w.heap.size, 0, none⟩) n n) n (half (M.pathL a b) k) ∧ Below w.heap.size w wr) (fun i _ => n - (intOf i).toNat)
  case atStart => exact ⟨0, by omega, rfl, hown0, hb1⟩
  case round =>
    clear hown0 hb1
    obtain ⟨k, hk, rfl, hown, hbel⟩ := hrel
    by_cases hlt : k < n
    · have hkl : k < (M.pathL a b).length := by rw [Hl.out]; exact hlt
      have hcell : ∃ v, wr.cell? ⟨w.heap.size, k, none⟩ = some v := by
        rw [hown.cellAt k (by omega)]
        exact ⟨_, List.getElem?_eq_getElem (by rw [hown.1]; omega)⟩
      obtain ⟨v0, hcell⟩ := hcell
      have hfr := hown.frozenAt k
      have hst := hown.stored k (.int .i64 (M.pathL a b)[k])
      rw [half_set _ _ hkl, M.pathL_get] at hst
      have hnd := Hn.out
      have hu := M.up_bd (n := b) (d := M.dep a + k + 1) b1 (by omega) (by omega)
      have hp := M.p2_pos (M.dep a + k + 1)
      have hle : M.dep a + k + 1 ≤ M.dep b := by omega
      have HST : Hid _ := hst
      obtain ⟨hu1, hu2, hu3⟩ := hu
      clear hst hnd hkl hown
      go_wp2_with (first | (go_at_call 38; refine (upTo_any _ _ _ (by omega) (by omega) (by omega) (by omega)).mono ?_; rintro e w' ⟨rfl, hw⟩; subst w') | (go_at_call 44; refine (sideOf_any _ _ (by omega) (by omega)).mono ?_; rintro e w' ⟨rfl, hw⟩; subst w'))
      go_roundw
      case rel => exact ⟨k + 1, by omega, by go_num, HST.out.1, hbel.grown HST.out.2 hbel.size (fun j hj => by cases hj; exact Nat.le_refl _)⟩
      case measure => simp [intOf]; omega
    · obtain rfl : k = n := by omega
      have hfin : wr.ownsRow w.heap.size 3 1 (Value.slice (some ⟨w.heap.size, 0, none⟩) k k) k (ints (M.pathL a b)) := by
        have := hown
        unfold half at this
        rw [← Hl.out, List.take_length, Nat.sub_self, List.replicate_zero, List.append_nil] at this
        rw [← Hl.out]; exact this
      clear hown
      go_wp2
      go_ret2
      rw [Hl.out]
      exact ⟨rfl, hfin, hbel⟩
set_option maxHeartbeats 400000 in
theorem path_no (h a b : Int) (w : World) (h0 : 0 ≤ a) (h1 : a ≤ 18446744073709551615) (h2 : 0 ≤ b) (h3 : b ≤ 18446744073709551615) (hp : M.pathE h a b ≠ 0) :
    Calls Try.prog 29 #[.int .i64 h, .int .u64 a, .int .u64 b] w fun e w' => e = .returned (.tuple #[.slice none 0 0, .int .i64 (M.pathE h a b)]) ∧ w' = w := by
  by_cases hk : M.okB h a = true ∧ M.okB h b = true
  · have E := M.eBoth_ok hk.1 hk.2
    have k1 := (M.ok_of hk.1).2.2.1
    have k2 := (M.ok_of hk.2).2.2.1
    have hA : M.abv a b = false := by
      cases hx : M.abv a b
      · rfl
      · unfold M.pathE at hp; rw [hk.1, hk.2, hx] at hp; exact absurd rfl hp
    have P : M.pathE h a b = 4 := by unfold M.pathE; rw [hk.1, hk.2, hA]; rfl
    clear hp hk
    go_enter Try.func29, Try.ntmps29
    go_wp2_with (first | (go_at_call 40; refine (checkBoth_any _ _ _ _ (by omega) (by omega) (by omega) (by omega)).mono ?_; rintro e w' ⟨rfl, hw⟩; subst w') | (go_at_call 41; refine (isAbove_any _ _ _ (by omega) (by omega) (by omega) (by omega)).mono ?_; rintro e w' ⟨rfl, hw⟩; subst w'))
    go_ret2
    rw [P]; exact ⟨rfl, rfl⟩
  · have E := M.eBoth_no hk
    have P : M.pathE h a b = 1 := by unfold M.pathE; rw [if_neg (by simpa using hk)]
    clear hp hk
    go_enter Try.func29, Try.ntmps29
    go_wp2_with (first | (go_at_call 40; refine (checkBoth_any _ _ _ _ (by omega) (by omega) (by omega) (by omega)).mono ?_; rintro e w' ⟨rfl, hw⟩; subst w') | (go_at_call 41; refine (isAbove_any _ _ _ (by omega) (by omega) (by omega) (by omega)).mono ?_; rintro e w' ⟨rfl, hw⟩; subst w'))
    go_ret2
    rw [P]; exact ⟨rfl, rfl⟩
end Go.Proofs.Ytonjdnjeemcilaa
