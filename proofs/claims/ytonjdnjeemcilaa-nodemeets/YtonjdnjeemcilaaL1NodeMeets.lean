/-
  The law NodeMeets returns true at every input. Conditions: the numbers fit their kinds.
-/
import Derived.Test.YtonjdnjeemcilaaW4
import Derived.Test.YtonjdnjeemcilaaM3
import Derived.Test.YtonjdnjeemcilaaBel
import Derived.Deep.RegionWith
namespace Go.Proofs.Ytonjdnjeemcilaa
open Go.RowKit
/-- what a side of where two meet comes to -/
theorem meets_side (h a b s : Int) (ha : M.okB h a = true) (hb : M.okB h b = true) (hs : s = 0 ∨ s = 1) :
    M.childE h (M.meet a b) s = 4 ∨ (M.childE h (M.meet a b) s = 0 ∧ 0 ≤ M.childV h (M.meet a b) s ∧ M.childV h (M.meet a b) s ≤ 18446744073709551615 ∧ M.eBoth h (M.childV h (M.meet a b) s) a = 0 ∧ M.eBoth h (M.childV h (M.meet a b) s) b = 0 ∧
      (M.abvV h (M.childV h (M.meet a b) s) a = false ∨ (M.abvV h (M.childV h (M.meet a b) s) a = true ∧ M.abvV h (M.childV h (M.meet a b) s) b = false))) := by
  have hm := M.ok_meet ha hb
  by_cases hl : M.meet a b < M.p2 h
  · have hc := M.childE_yes hm hs hl
    have hv := (M.childE_zero hc).2.2.2
    have hk := M.ok_child hm hs hl
    have hx := M.meet_child (M.ok_of ha).2.2.1 (M.ok_of hb).2.2.1 hs
    rw [hv]
    refine .inr ⟨hc, ?_, ?_, M.eBoth_ok hk ha, M.eBoth_ok hk hb, ?_⟩
    · have := (M.ok_of hk).2.2.1; omega
    · have := M.ok_lt hk; omega
    · rw [M.abvV_ok hk ha, M.abvV_ok hk hb]
      cases h1 : M.abv (2 * M.meet a b + s) a
      · exact .inl rfl
      · refine .inr ⟨rfl, ?_⟩
        cases h2 : M.abv (2 * M.meet a b + s) b
        · rfl
        · exact absurd ⟨h1, h2⟩ hx
  · exact .inl (M.childE_no hm hs hl)
set_option maxRecDepth 100000 in
set_option maxHeartbeats 1000000 in
theorem nodeMeets_walk (h a b : Int) (w : World) (h0 : 0 ≤ a) (h1 : a ≤ 18446744073709551615) (h2 : 0 ≤ b) (h3 : b ≤ 18446744073709551615) :
    Calls Try.prog 6 #[.int .i64 h, .int .u64 a, .int .u64 b] w fun e w' => e = .returned (.bool true) ∧ Below w.heap.size w w' := by
  by_cases hk : M.okB h a = true ∧ M.okB h b = true
  · obtain ⟨hka, hkb⟩ := hk
    have a1 := (M.ok_of hka).2.2.1
    have b1 := (M.ok_of hkb).2.2.1
    have hkm := M.ok_meet hka hkb
    have S0 := meets_side h a b 0 hka hkb (.inl rfl)
    have S1 := meets_side h a b 1 hka hkb (.inr rfl)
    have E1 := M.eBoth_ok hka hkb
    have E2 := M.eBoth_ok hkb hka
    have V1 := M.meetV_ok hka hkb
    have V2 := (M.meetV_ok hkb hka).trans (M.meet_comm a1 b1)
    have E3 := M.eBoth_ok hkm hka
    have E4 := M.eBoth_ok hkm hkb
    have A1 := (M.abvV_ok hkm hka).trans (M.meet_above a1 b1).2.1
    have A2 := (M.abvV_ok hkm hkb).trans (M.meet_above a1 b1).2.2
    have m1 := (M.meet_above a1 b1).1
    have m2 := M.ok_lt hkm
    have A3 : (M.abvV h a b == (M.meet a b == a)) = true := by
      rw [M.abvV_ok hka hkb, beq_iff_eq, Bool.eq_iff_iff, beq_iff_eq]
      exact M.abv_meet a1 b1
    clear hka hkb hkm
    generalize M.meet a b = m at *
    generalize hc0 : M.childV h m 0 = c0 at *
    generalize hc1 : M.childV h m 1 = c1 at *
    have HS0 : Hid _ := S0
    have HS1 : Hid _ := S1
    clear S0 S1
    go_enter Try.func6, Try.ntmps6
    go_wp2_with (first | (go_at_call 10; refine (live_any _).mono ?_; rintro e w' ⟨rfl, rfl⟩) | (go_at_call 25; refine (above_any _ _ _ _ (by omega) (by omega) (by omega) (by omega)).mono ?_; rintro e w' ⟨rfl, rfl⟩) | (go_at_call 27; refine (meet_any _ _ _ _ (by omega) (by omega) (by omega) (by omega)).mono ?_; rintro e w' ⟨rfl, rfl⟩))
    go_loop [84] (fun i => ∃ k : Nat, k ≤ 2 ∧ i = .int .i64 k) (fun i => 2 - (intOf i).toNat)
    case atStart => exact ⟨0, by omega, rfl⟩
    case round =>
      obtain ⟨k, hk, rfl⟩ := hrel
      by_cases hlt : k < 2
      · obtain rfl | rfl : k = 0 ∨ k = 1 := by omega
        · rcases HS0.out with s1 | ⟨s1, s2, s3, s4, s5, s6 | ⟨s6, s7⟩⟩
          all_goals
            clear HS0 HS1
            go_wp2_with (first | (go_at_call 21; refine (child_any _ _ _ _ (by omega) (by omega)).mono ?_; rintro e w' ⟨rfl, rfl⟩) | (go_at_call 25; refine (above_any _ _ _ _ (by omega) (by omega) (by omega) (by omega)).mono ?_; rintro e w' ⟨rfl, rfl⟩))
            go_round
            case rel => exact ⟨1, by omega, by go_num⟩
            case measure => simp [intOf]
        · rcases HS1.out with s1 | ⟨s1, s2, s3, s4, s5, s6 | ⟨s6, s7⟩⟩
          all_goals
            clear HS0 HS1
            go_wp2_with (first | (go_at_call 21; refine (child_any _ _ _ _ (by omega) (by omega)).mono ?_; rintro e w' ⟨rfl, rfl⟩) | (go_at_call 25; refine (above_any _ _ _ _ (by omega) (by omega) (by omega) (by omega)).mono ?_; rintro e w' ⟨rfl, rfl⟩))
            go_round
            case rel => exact ⟨2, by omega, by go_num⟩
            case measure => simp [intOf]
      · clear HS0 HS1
        go_wp2_with (first | (go_at_call 25; refine (above_any _ _ _ _ (by omega) (by omega) (by omega) (by omega)).mono ?_; rintro e w' ⟨rfl, rfl⟩))
        go_ret
        exact ⟨rfl, Below.refl _ _⟩
  · have E := M.eBoth_no hk
    have V : M.meetV h a b = 0 := by unfold M.meetV; rw [E]; rfl
    clear hk
    go_enter Try.func6, Try.ntmps6
    go_wp2_with (first | (go_at_call 10; refine (live_any _).mono ?_; rintro e w' ⟨rfl, rfl⟩) | (go_at_call 25; refine (above_any _ _ _ _ (by omega) (by omega) (by omega) (by omega)).mono ?_; rintro e w' ⟨rfl, rfl⟩) | (go_at_call 27; refine (meet_any _ _ _ _ (by omega) (by omega) (by omega) (by omega)).mono ?_; rintro e w' ⟨rfl, rfl⟩))
    go_ret
    exact ⟨rfl, Below.refl _ _⟩
end Go.Proofs.Ytonjdnjeemcilaa
