/-
  What the program's Shut comes to. Conditions: each theorem's own premises.
-/
import Derived.Test.YthkkclhjpgkhaaaY7
namespace Go.Proofs.Ythkkclhjpgkhaaa
open Go.RowKit
/-- all that follows at once from a set stands in it -/
def M.Sht (A : List M.Tm) (S : List Int) : Prop := ∀ j, M.Pl A j → M.Fol A (· ∈ S) j → j ∈ S
theorem M.lrn0_mem {S : List Int} {x : Int} : x ∈ M.lrn [] S ↔ x ∈ S := by rw [M.lrn_mem]; simp
theorem M.sht_told {A : List M.Tm} {S : List Int} (hS : ∀ x ∈ S, M.Pl A x) (h : ∀ k, k < A.length → ∀ x ∈ M.tell A (M.lrn [] S) k, x ∈ M.lrn [] S) : M.Sht A S := fun j hj hf => by
  obtain ⟨k, hk, _, hx⟩ := M.fol_tell (D := M.lrn [] S) (fun x hx => hS x (M.lrn0_mem.1 hx)) hj (hf.mono fun x hx => M.lrn0_mem.2 hx)
  exact M.lrn0_mem.1 (h k hk j hx)
theorem M.sht_not {A : List M.Tm} (hA : M.Ok A) {S : List Int} {k : Nat} (hk : k < A.length) {x : Int} (hx : x ∈ M.tell A (M.lrn [] S) k) (hn : x ∉ M.lrn [] S) : ¬ M.Sht A S := fun h => by
  obtain ⟨hf, hp⟩ := M.tell_fol hA hk hx
  exact hn (M.lrn0_mem.2 (h x hp (hf.mono fun y hy => M.lrn0_mem.1 hy)))
set_option maxRecDepth 100000 in
theorem shut1_any (b0 B : Nat) (vt : Value) (T : Nat → Prop) (s n : Nat) (D : List Int) (x : Int) (w : World) (h : w.cell? ⟨b0, 0, none⟩ = some (.pointer (some ⟨B, 0, none⟩))) (hM : Mind w T s B vt n D) (hx : 0 ≤ x ∧ x < (n : Int)) :
    Calls Try.prog 32 #[.int .i64 x, .pointer (some ⟨b0, 0, none⟩)] w fun e w' => e = .returned (.bool (decide (x ∉ D))) ∧ Below w.heap.size w w' := by
  obtain ⟨p, rfl⟩ : ∃ p : Nat, x = p := ⟨x.toNat, by omega⟩
  have hpn : p < n := by omega
  have hpi : (p : Int) < n := by omega
  obtain ⟨g, vo, h1, h2, h3, _, _, _⟩ := hM
  have q1 := h1.cell 1
  have q3 := ownB_cell h2 hpn
  obtain ⟨r, hr⟩ : ∃ r, decide ((p : Int) ∈ D) = r := ⟨_, rfl⟩
  have e : decide ((p : Int) ∉ D) = !r := by rw [← hr]; simp
  rw [e]
  rw [hr] at q3
  clear h1 h2 h3 e hr
  cases r
  all_goals go_enter Try.func32, Try.ntmps32
  all_goals go_wp2
  all_goals go_ret
  all_goals exact ⟨rfl, Below.refl _ _⟩
set_option maxRecDepth 100000 in
theorem shut_no {A : List M.Tm} {H : List Int} (h : ¬ (M.Ok A ∧ M.okL A H)) {v1 v2 : Value} (w : World) (u1 : Ts w v1 A) (u2 : Is w v2 H) :
    Calls Try.prog 16 #[v1, v2] w fun e w' => e = .returned (.tuple #[.bool false, .int .i64 1]) ∧ Below w.heap.size w w' := by
  obtain ⟨a2, c2, rfl, _, _, _⟩ := u2.form
  have U1 := hidq u1
  have U2 := hidq u2
  have HR := hidq (hr_no (A := A) (Ls := [H]) (by simpa using h))
  clear u1 u2 h
  go_enter Try.func16, Try.ntmps16
  go_wp2_with (first | (go_at_call 25; refine (kcheck_any A [H] _ _ _ _ (U1.out.alloc _) (iss_one w _ (by simp) _ _ _ H U2.out) HR.out).mono ?_; rintro rr w1 ⟨rfl, hb1⟩; have B1 := hidq (below_trans (below_one (Below.refl _ _)) hb1); clear hb1))
  go_ret2
  exact ⟨rfl, B1.out⟩
theorem M.tell_lt {A : List M.Tm} (hA : M.Ok A) {n k : Nat} (hn : A.length = n) (hk : k < n) {D : List Int} : ∀ x ∈ M.tell A D k, 0 ≤ x ∧ x < (n : Int) := fun x hx => by
  have := (M.tell_fol hA (by rw [hn]; exact hk) hx).2
  exact ⟨this.1, by have := this.2; omega⟩
set_option maxRecDepth 100000 in
set_option maxHeartbeats 4000000 in
theorem shut_ok {A : List M.Tm} {H : List Int} (hA : M.Ok A) (hH : M.okL A H) {r : Bool} (hr : r = true ↔ M.Sht A H) {v1 v2 : Value} (w : World) (u1 : Ts w v1 A) (u2 : Is w v2 H) :
    Calls Try.prog 16 #[v1, v2] w fun e w' => e = .returned (.tuple #[.bool r, .int .i64 0]) ∧ Below w.heap.size w w' := by
  obtain ⟨n, hn⟩ : ∃ n, A.length = n := ⟨_, rfl⟩
  have hl := hA.1
  rw [hn] at hl
  obtain ⟨a1, c1, rfl, _, _, _⟩ := u1.form
  obtain ⟨a2, c2, rfl, _, _, _⟩ := u2.form
  have U1 := hidq u1
  have U2 := hidq u2
  have HA := hidq hA
  have HH := hidq hH
  have HN := hidq hn
  have HR := hidq (hr_yes (A := A) (Ls := [H]) ⟨hA, by simpa using hH⟩)
  have HT := hidq (M.sht_told hH.2)
  have HNT := hidq (fun k (hk : k < A.length) x hx hn => M.sht_not hA (S := H) hk (x := x) hx hn)
  have HK := hidq hr
  rw [hn] at U1 HT HNT ⊢
  clear u1 u2 hA hH hn hr
  go_enter Try.func16, Try.ntmps16
  go_upto_region 6 with (first | (go_at_call 25; refine (kcheck_any A [H] _ _ _ _ (U1.out.alloc _) (iss_one w _ (by simp) _ _ _ H U2.out) HR.out).mono ?_; rintro rr w1 ⟨rfl, hb1⟩; have B1 := hidq (below_trans (below_one (Below.refl _ _)) hb1); clear hb1) | (go_at_call 26; refine (mindOf_any n A H _ _ _ (U1.out.below B1.out) (U2.out.below B1.out) HN.out hl (M.okL.lt HH.out HN.out)).mono ?_; rintro rr w2 ⟨B, rfl, hm2, hb2⟩; have M2 := hidq hm2; have B2 := hidq hb2; clear hm2 hb2))
  obtain ⟨T, hT⟩ : ∃ T : Nat → Prop, T = fun i => w1.heap.size ≤ i := ⟨_, rfl⟩
  rw [← hT] at M2
  clear hT
  obtain ⟨D, hD⟩ : ∃ D, M.lrn [] H = D := ⟨_, rfl⟩
  rw [hD] at M2 HT HNT
  clear hD
  obtain ⟨s, hs⟩ : ∃ s, w1.heap.size = s := ⟨_, rfl⟩
  rw [hs] at M2
  clear hs
  have M3 := hidq (M2.out.below ((Below.refl _ _).alloc (Nat.le_refl _) (.cells #[.pointer (some ⟨B, 0, none⟩)] 48)))
  have X3 := hidq (Bxs.new w2 #[.pointer (some ⟨B, 0, none⟩)] 48)
  have B3 := hidq (below_one (o := .cells #[.pointer (some ⟨B, 0, none⟩)] 48) (below_trans B1.out B2.out))
  generalize hBX : w2.heap.size = BX at *
  clear hBX M2 B2 B1
  generalize w2.alloc (.cells #[.pointer (some ⟨B, 0, none⟩)] 48) = W3 at *
  go_wp2
  go_loopw [23] (fun x wr => ∃ k : Nat, k ≤ n ∧ x = .int .i64 k ∧ (∀ j, j < k → ∀ x ∈ M.tell A D j, x ∈ D) ∧ Below W3.heap.size W3 wr) (fun x _ => n - (intOf x).toNat)
  case atStart => exact ⟨0, by omega, rfl, fun j hj => by omega, Below.refl _ _⟩
  case round =>
    obtain ⟨k, hk, rfl, hall, hb⟩ := hrel
    have HAL := hidq hall
    have HB := hidq (below_trans B3.out hb)
    have HBR := hidq hb
    by_cases hlt : k < n
    · have MR := hidq (M3.out.below hb)
      have XR := hidq (X3.out.below hb)
      have q0 := XR.out.cell 0
      clear hall hb
      cases ha : (M.tell A D k).any (fun x => decide (x ∉ D)) with
      | true =>
        obtain rfl : r = false := by
          obtain ⟨x, hx, hd⟩ := List.any_eq_true.1 ha
          cases r with
          | false => rfl
          | true => exact absurd (HK.out.1 rfl) (HNT.out k hlt x hx (of_decide_eq_true hd))
        go_wp2_with (first | (go_at_call 34; refine (tells_any A HA.out T s B _ n D k _ MR.out (U1.out.below HB.out) HN.out hlt).mono ?_; rintro rr w4 ⟨v4, rfl, ho4, hb4⟩; have I4 := hidq (Is.of_ownq ho4 hl (M.tell_lt HA.out HN.out hlt)); have B4 := hidq hb4; clear ho4 hb4) | (go_at_call 33; refine (has_shut (fun x => decide (x ∉ D)) BX (M.tell A D k) _ _ I4.out (fun X hb x hx => shut1_any BX B _ T s n D x X ((XR.out.below (below_trans B4.out hb)).cell 0) (MR.out.below (below_trans B4.out hb)) (M.tell_lt HA.out HN.out hlt x hx)) _ ha).mono ?_; rintro rr w5 ⟨rfl, hb5⟩; have B5 := hidq (below_trans B4.out hb5); clear hb5))
        go_ret2
        exact ⟨rfl, below_trans HB.out B5.out⟩
      | false =>
        have HA2 := hidq (show ∀ x ∈ M.tell A D k, x ∈ D from fun x hx => by
          have := List.any_eq_false.1 ha x hx
          simpa using this)
        go_wp2_with (first | (go_at_call 34; refine (tells_any A HA.out T s B _ n D k _ MR.out (U1.out.below HB.out) HN.out hlt).mono ?_; rintro rr w4 ⟨v4, rfl, ho4, hb4⟩; have I4 := hidq (Is.of_ownq ho4 hl (M.tell_lt HA.out HN.out hlt)); have B4 := hidq hb4; clear ho4 hb4) | (go_at_call 33; refine (has_shut (fun x => decide (x ∉ D)) BX (M.tell A D k) _ _ I4.out (fun X hb x hx => shut1_any BX B _ T s n D x X ((XR.out.below (below_trans B4.out hb)).cell 0) (MR.out.below (below_trans B4.out hb)) (M.tell_lt HA.out HN.out hlt x hx)) _ ha).mono ?_; rintro rr w5 ⟨rfl, hb5⟩; have B5 := hidq (below_trans B4.out hb5); clear hb5))
        go_roundw
        case rel => exact ⟨k + 1, by omega, by go_num, fun j hj => by
          rcases Nat.lt_or_ge j k with h | h
          · exact HAL.out j h
          · obtain rfl : j = k := by omega
            exact HA2.out, below_trans HBR.out B5.out⟩
        case measure => simp [intOf]; omega
    · obtain rfl : r = true := HK.out.2 (HT.out fun j hj => HAL.out j (by omega))
      clear hall hb
      go_wp2
      go_ret2
      exact ⟨rfl, HB.out⟩
end Go.Proofs.Ythkkclhjpgkhaaa
