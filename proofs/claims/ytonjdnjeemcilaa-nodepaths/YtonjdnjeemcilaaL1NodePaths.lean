/-
  The law NodePaths returns true at every input. Conditions: the numbers fit their kinds.
-/
import Derived.Test.YtonjdnjeemcilaaW5
import Derived.Deep.RegionWith
namespace Go.Proofs.Ytonjdnjeemcilaa
open Go.RowKit
set_option maxRecDepth 100000 in
set_option maxHeartbeats 1000000 in
theorem nodePaths_walk (h a b : Int) (w : World) (h0 : 0 ≤ a) (h1 : a ≤ 18446744073709551615) (h2 : 0 ≤ b) (h3 : b ≤ 18446744073709551615) :
    Calls Try.prog 7 #[.int .i64 h, .int .u64 a, .int .u64 b] w fun e w' => e = .returned (.bool true) ∧ Below w.heap.size w w' := by
  by_cases hp : M.pathE h a b = 0
  · obtain ⟨hka, hkb, hab⟩ := M.pathE_zero hp
    have E1 := M.eChk_ok hka
    have E2 := M.eChk_ok hkb
    have D1 := M.depV_ok hka
    have D2 := M.depV_ok hkb
    have b1 := (M.ok_of hkb).2.2.1
    have d1 := M.dep_nonneg a
    have d2 := (M.abv_iff.1 hab).1
    have d3 := (M.ok_dep hkb).2
    have d4 := (M.ok_of hkb).2.1
    have hU : M.up b (M.dep a) = a := (M.abv_iff.1 hab).2
    have hlen := M.pathL_length a b
    have hget := M.pathL_at a b
    have hUs := M.up_self b
    have hst := fun e => @M.path_step h b e hkb
    have Hk : Hid (∀ w, Calls Try.prog 29 #[.int .i64 h, .int .u64 a, .int .u64 b] w fun e w' => e = .returned (.tuple #[.slice (some ⟨w.heap.size, 0, none⟩) (M.pathL a b).length (M.pathL a b).length, .int .i64 0]) ∧ w'.ownsRow w.heap.size 3 1 (.slice (some ⟨w.heap.size, 0, none⟩) (M.pathL a b).length (M.pathL a b).length) (M.pathL a b).length (ints (M.pathL a b)) ∧ Below w.heap.size w w') := fun w => path_yes h a b w hka hkb hab
    clear hka hkb hab hp
    generalize hL : M.pathL a b = L at *
    generalize hn : L.length = n at *
    generalize M.dep a = da at *
    generalize M.dep b = db at *
    have hdb : db - da = n := by omega
    have Hst : Hid _ := hst
    have Hget : Hid _ := hget
    have HU : Hid (M.up b da = a) := hU
    have HUs : Hid (M.up b db = b) := hUs
    have Hlen : Hid (n = (db - da).toNat) := hlen
    have Hn : Hid (L.length = n) := hn
    have b5 : da + n ≤ 32 := by omega
    have b6 : db = da + n := by omega
    clear hst hget hU hUs hlen hL hn
    subst b6
    go_enter Try.func7, Try.ntmps7
    go_wp2_with (first | (go_at_call 10; refine (live_any _).mono ?_; rintro e w' ⟨rfl, hw⟩; subst w') | (go_at_call 13; refine (depth_any _ _ _ (by omega) (by omega)).mono ?_; rintro e w' ⟨rfl, hw⟩; subst w') | (go_at_call 29; refine (Hk.out _).mono ?_; rintro e w1 ⟨rfl, hown, hbel⟩))
    go_loopw [70, 14] (fun i t wr => ∃ k : Nat, k ≤ n ∧ i = .int .i64 k ∧ t = .int .u64 (M.up b (da + k)) ∧ wr.ownsRow w.heap.size 3 1 (Value.slice (some ⟨w.heap.size, 0, none⟩) n n) n (ints L) ∧ Below w.heap.size w wr) (fun i _ _ => n - (intOf i).toNat)
    case atStart => exact ⟨0, by omega, rfl, by rw [show da + ((0 : Nat) : Int) = da by omega, HU.out], hown, hbel⟩
    case round =>
      clear hown hbel
      obtain ⟨k, hk, rfl, rfl, hown, hbel⟩ := hrel
      by_cases hlt : k < n
      · obtain ⟨s1, s2, s3, s4, s5, s6, s7, s8, s9, s10, s11, s12⟩ := Hst.out (da + k) (by omega) (by omega)
        have hcell : wr.cell? ⟨w.heap.size, k, none⟩ = some (.int .i64 (M.up b (da + k + 1) % 2)) := by
          rw [hown.cellAt k (by omega)]
          unfold ints
          rw [List.getElem?_map, Hget.out k (by omega)]; rfl
        have HO : Hid _ := hown
        have s13 : 0 ≤ M.up b (da + k + 1) % 2 := by omega
        have s14 : M.up b (da + k + 1) % 2 ≤ 1 := by omega
        have HX : Hid (M.up b (da + ((k + 1 : Nat) : Int)) = M.up b (da + k + 1)) := by
          show _ = _
          congr 1; omega
        clear hown
        generalize M.up b (da + k + 1) = x at *
        generalize M.up b (da + k) = y at *
        generalize x % 2 = sd at *
        generalize M.oth x = ox at *
        clear Hst Hget HU HUs Hlen Hk
        go_wp2_with (first | (go_at_call 21; refine (child_any _ _ _ _ (by omega) (by omega)).mono ?_; rintro e w' ⟨rfl, hw⟩; subst w') | (go_at_call 15; refine (up_any _ _ _ _ (by omega) (by omega)).mono ?_; rintro e w' ⟨rfl, hw⟩; subst w') | (go_at_call 23; refine (other_any _ _ _ (by omega) (by omega)).mono ?_; rintro e w' ⟨rfl, hw⟩; subst w'))
        go_roundw
        case rel => exact ⟨k + 1, by omega, by go_num, by rw [HX.out], HO.out, hbel⟩
        case measure => simp [intOf]; omega
      · obtain rfl : k = n := by omega
        have hfin : M.up b (da + k) = b := HUs.out
        clear hown
        go_wp2
        go_ret
        exact ⟨rfl, hbel⟩
  · have hp' : (M.pathE h a b != 0) = true := by rw [bne_iff_ne]; exact hp
    go_enter Try.func7, Try.ntmps7
    go_wp2_with (first | (go_at_call 10; refine (live_any _).mono ?_; rintro e w' ⟨rfl, hw⟩; subst w') | (go_at_call 29; refine (path_no h a b _ h0 h1 h2 h3 hp).mono ?_; rintro e w' ⟨rfl, hw⟩; subst w'))
    go_ret
    exact ⟨rfl, Below.refl _ _⟩
end Go.Proofs.Ytonjdnjeemcilaa
