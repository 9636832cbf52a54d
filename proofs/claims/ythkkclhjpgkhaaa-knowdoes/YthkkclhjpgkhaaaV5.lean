/-
  What the document's own Shut and Is come to. Conditions: each theorem's own premises.
-/
import Derived.Test.YthkkclhjpgkhaaaV4
namespace Go.Proofs.Ythkkclhjpgkhaaa
open Go.RowKit
set_option maxRecDepth 100000 in
set_option maxHeartbeats 1000000 in
theorem r6shut_any {A : List M.Tm} {S : List Int} {r : Bool} {er : Int} (h : ShtA A S r er) {v1 v2 : Value} (w : World) (u1 : Ts w v1 A) (u2 : Is w v2 S) :
    Calls Try.prog 17 #[v1, v2] w fun e w' => e = .returned (.tuple #[.bool r, .int .i64 er]) ∧ Below w.heap.size w w' := by
  obtain ⟨a1, c1, rfl, q1, q2, _⟩ := u1.form
  have U1 := hidq u1
  have U2 := hidq u2
  clear u1 u2
  rcases h with ⟨rfl, h1, h2, hr⟩ | ⟨rfl, h, rfl⟩
  · have HP := hidq (M.plsB_okL.2 ⟨h1, h2⟩)
    obtain ⟨n, hn⟩ : ∃ n, A.length = n := ⟨_, rfl⟩
    have hl := h1.1
    have HA := hidq h1
    have HH := hidq (M.okL.lt h2 hn)
    have HN := hidq hn
    have HR := hidq hr
    rw [hn] at q1 hl U1 ⊢
    clear h1 h2 hn hr
    go_enter Try.func17, Try.ntmps17
    go_wp2_with (first | (go_at_call 29; refine (rplaces_eq HP.out _ U1.out U2.out).mono ?_; rintro rr w1 ⟨rfl, hb1⟩; have B1 := hidq hb1; clear hb1))
    go_loopw [13] (fun x wr => ∃ k : Nat, k ≤ n ∧ x = .int .i64 k ∧ (∀ j : Nat, j < k → M.Fol A (· ∈ S) j → (j : Int) ∈ S) ∧ Below w.heap.size w wr) (fun x _ => n - (intOf x).toNat)
    case atStart => exact ⟨0, by omega, rfl, fun j hj => by omega, B1.out⟩
    case round =>
      obtain ⟨k, hk, rfl, hall, hb⟩ := hrel
      have HAL := hidq hall
      have HB := hidq hb
      clear hall hb
      by_cases hlt : k < n
      · have HNX := hidq (fun (hk : M.Fol A (· ∈ S) k → (k : Int) ∈ S) => (show ∀ j : Nat, j < k + 1 → M.Fol A (· ∈ S) j → (j : Int) ∈ S from fun j hj hf => by
          rcases Nat.lt_or_ge j k with h | h
          · exact HAL.out j h hf
          · obtain rfl : j = k := by omega
            exact hk hf))
        by_cases hfo : M.Fol A (· ∈ S) k
        · have HFO := hidq hfo
          by_cases hm : (k : Int) ∈ S
          · have hin := decide_eq_true hm
            have HN2 := hidq (HNX.out fun _ => hm)
            clear hfo hm
            go_wp2_with (first | (go_at_call 35; refine (rfollows_yes HA.out HFO.out _ (U1.out.below HB.out) (U2.out.below HB.out) HN.out HH.out hlt).mono ?_; rintro rr w6 ⟨rfl, hb6⟩; have B6 := hidq (below_trans HB.out hb6); clear hb6) | (go_at_call 31; refine (rin_eq hin _ (U2.out.below B6.out)).mono ?_; rintro rr w7 ⟨rfl, hw7⟩; subst w7))
            go_roundw
            case rel => exact ⟨k + 1, by omega, by go_num, HN2.out, B6.out⟩
            case measure => simp [intOf]; omega
          · have hin := decide_eq_false hm
            obtain rfl : r = false := by
              cases r with
              | false => rfl
              | true => exact absurd (HR.out.1 rfl k ⟨by omega, by have := HN.out; omega⟩ hfo) hm
            clear hfo hm
            go_wp2_with (first | (go_at_call 35; refine (rfollows_yes HA.out HFO.out _ (U1.out.below HB.out) (U2.out.below HB.out) HN.out HH.out hlt).mono ?_; rintro rr w6 ⟨rfl, hb6⟩; have B6 := hidq (below_trans HB.out hb6); clear hb6) | (go_at_call 31; refine (rin_eq hin _ (U2.out.below B6.out)).mono ?_; rintro rr w7 ⟨rfl, hw7⟩; subst w7))
            go_ret2
            exact ⟨rfl, B6.out⟩
        · have HFO := hidq hfo
          have HN2 := hidq (HNX.out fun h => absurd h hfo)
          clear hfo
          go_wp2_with (first | (go_at_call 35; refine (rfollows_no HA.out HFO.out _ (U1.out.below HB.out) (U2.out.below HB.out) HN.out HH.out hlt).mono ?_; rintro rr w6 ⟨rfl, hb6⟩; have B6 := hidq (below_trans HB.out hb6); clear hb6))
          go_roundw
          case rel => exact ⟨k + 1, by omega, by go_num, HN2.out, B6.out⟩
          case measure => simp [intOf]; omega
      · obtain rfl : r = true := HR.out.2 fun j hj hf => by
          obtain ⟨m, rfl⟩ : ∃ m : Nat, j = m := ⟨j.toNat, by have := hj.1; omega⟩
          exact HAL.out m (by have := hj.2; have := HN.out; omega) hf
        go_wp2
        go_ret2
        exact ⟨rfl, HB.out⟩
  · have HP := hidq (M.plsB_not h)
    clear h
    generalize A.length = n at *
    go_enter Try.func17, Try.ntmps17
    go_wp2_with (first | (go_at_call 29; refine (rplaces_eq HP.out _ U1.out U2.out).mono ?_; rintro rr w1 ⟨rfl, hb1⟩; have B1 := hidq hb1; clear hb1))
    go_ret2
    exact ⟨rfl, B1.out⟩
set_option maxRecDepth 100000 in
set_option maxHeartbeats 2000000 in
theorem r6is_any {A : List M.Tm} {H L : List Int} {r : Bool} {er : Int} (h : ChnA A H L r er) {v1 v2 v3 : Value} (w : World) (u1 : Ts w v1 A) (u2 : Is w v2 H) (u3 : Is w v3 L) :
    Calls Try.prog 19 #[v1, v2, v3] w fun e w' => e = .returned (.tuple #[.bool r, .int .i64 er]) ∧ Below w.heap.size w w' := by
  obtain ⟨a3, c3, rfl, q1, q2, q4⟩ := u3.form
  have U1 := hidq u1
  have U2 := hidq u2
  have U3 := hidq u3
  have HQ4 := hidq q4
  have T1 := hidq trivial
  have T2 := hidq trivial
  have hm3 : L.length ≤ maxLen := by omega
  unfold maxLen at hm3
  clear u1 u2 u3 q4
  rcases h with ⟨rfl, h1, h2, h3, hr⟩ | ⟨rfl, h, rfl⟩
  · have HP := hidq (M.plsB_okL.2 ⟨h1, h2⟩)
    have HQ := hidq (M.plsB_okL.2 ⟨h1, h3⟩)
    obtain ⟨n, hn⟩ : ∃ n, A.length = n := ⟨_, rfl⟩
    have hl := h1.1
    rw [hn] at hl
    have HA := hidq h1
    have HLL := hidq (M.okL.lt h3 hn)
    have HN := hidq hn
    have HR := hidq hr
    clear h1 h2 h3 hn hr
    generalize hm : L.length = m at *
    have HM := hidq hm
    clear hm
    go_enter Try.func19, Try.ntmps19
    go_wp2_with (first | (go_at_call 29; clear T1; refine (rplaces_eq HP.out _ U1.out U2.out).mono ?_; rintro rr w1 ⟨rfl, hb1⟩; have B1 := hidq hb1; clear hb1) | (go_at_call 29; refine (rplaces_eq HQ.out _ (U1.out.below B1.out) (U3.out.below B1.out)).mono ?_; rintro rr w2 ⟨rfl, hb2⟩; have B2 := hidq (below_trans B1.out hb2); clear hb2))
    go_loopw [22] (fun x wr => ∃ k : Nat, k ≤ m ∧ x = .int .i64 k ∧ M.Chn A H (L.take k) ∧ Below w.heap.size w wr) (fun x _ => m - (intOf x).toNat)
    case atStart => exact ⟨0, by omega, rfl, M.Chn.nil A H, B2.out⟩
    case round =>
      obtain ⟨k, hk, rfl, hch, hb⟩ := hrel
      have HCH := hidq hch
      have HB := hidq hb
      clear hch hb
      by_cases hlt : k < m
      · obtain ⟨b3, o3, rfl⟩ := HQ4.out (by omega)
        obtain ⟨x, hx⟩ : ∃ x, L[k]? = some x := ⟨_, List.getElem?_eq_getElem (by rw [HM.out]; exact hlt)⟩
        have c1 := Is.cellq (U3.out.below HB.out) hx
        have hxb := HLL.out x (List.mem_of_getElem? hx)
        obtain ⟨p, rfl⟩ : ∃ p : Nat, x = p := ⟨x.toNat, by omega⟩
        have hpn : p < n := by omega
        have HNX := hidq (show L.take (k + 1) = L.take k ++ [(p : Int)] by
          obtain ⟨hkl, e⟩ := List.getElem?_eq_some_iff.1 hx
          rw [List.take_succ_eq_append_getElem hkl, e])
        have HCK := hidq (fun h : M.Chn A H L => h k (by rw [HM.out]; exact hlt))
        rw [hx] at HCK
        simp only [Option.getD_some] at HCK
        have HDL := hidq (show ∀ x ∈ L.take k, 0 ≤ x ∧ x < (n : Int) from fun x hx => HLL.out x (List.mem_of_mem_take hx))
        have hUD : Is wr (.slice (some ⟨b3, o3, none⟩) k c3) (L.take k) := by
          have := Sl.part (U3.out.below HB.out) 0 k c3 (by omega) (by omega) (by omega) (by omega) (by omega)
          rw [List.drop_zero, Nat.sub_zero, Nat.zero_mul] at this
          exact this
        have UD := hidq hUD
        have hcap : ¬ c3 = 0 := by omega
        have hkc : (k : Int) ≤ c3 := by omega
        have k0 : (0 : Int) ≤ k := by omega
        clear hUD hx hxb
        generalize L.take k = D at *
        by_cases hd : (p : Int) ∈ D
        · have h1 := decide_eq_true hd
          obtain rfl : r = false := by
            cases r with
            | false => rfl
            | true => exact absurd hd (HCK.out (HR.out.1 rfl)).1
          clear hd
          go_wp2_with (first | (go_at_call 31; clear T2; refine (rin_eq h1 _ (UD.out)).mono ?_; rintro rr w7 ⟨rfl, hw7⟩; subst w7))
          go_ret2
          exact ⟨rfl, HB.out⟩
        · have h1 := decide_eq_false hd
          have HC2 := hidq (show (p : Int) ∈ H ∨ M.Fol A (· ∈ D) p → M.Chn A H (L.take (k + 1)) from fun h => by rw [HNX.out]; exact HCH.out.snoc hd h)
          clear hd
          by_cases hh : (p : Int) ∈ H
          · have h2 := decide_eq_true hh
            have HC3 := hidq (HC2.out (.inl hh))
            clear hh
            go_wp2_with (first | (go_at_call 31; clear T2; refine (rin_eq h1 _ (UD.out)).mono ?_; rintro rr w7 ⟨rfl, hw7⟩; subst w7) | (go_at_call 31; refine (rin_eq h2 _ (U2.out.below HB.out)).mono ?_; rintro rr w7 ⟨rfl, hw7⟩; subst w7))
            go_roundw
            case rel => exact ⟨k + 1, by omega, by go_num, HC3.out, HB.out⟩
            case measure => simp [intOf]; omega
          · have h2 := decide_eq_false hh
            by_cases hfo : M.Fol A (· ∈ D) p
            · have HFO := hidq hfo
              have HC3 := hidq (HC2.out (.inr hfo))
              clear hh hfo
              go_wp2_with (first | (go_at_call 31; clear T2; refine (rin_eq h1 _ (UD.out)).mono ?_; rintro rr w7 ⟨rfl, hw7⟩; subst w7) | (go_at_call 31; refine (rin_eq h2 _ (U2.out.below HB.out)).mono ?_; rintro rr w7 ⟨rfl, hw7⟩; subst w7) | (go_at_call 35; refine (rfollows_yes HA.out HFO.out _ (U1.out.below HB.out) UD.out HN.out HDL.out hpn).mono ?_; rintro rr w6 ⟨rfl, hb6⟩; have B6 := hidq (below_trans HB.out hb6); clear hb6))
              go_roundw
              case rel => exact ⟨k + 1, by omega, by go_num, HC3.out, B6.out⟩
              case measure => simp [intOf]; omega
            · have HFO := hidq hfo
              obtain rfl : r = false := by
                cases r with
                | false => rfl
                | true =>
                  rcases (HCK.out (HR.out.1 rfl)).2 with h | h
                  · exact absurd h hh
                  · exact absurd h hfo
              clear hh hfo
              go_wp2_with (first | (go_at_call 31; clear T2; refine (rin_eq h1 _ (UD.out)).mono ?_; rintro rr w7 ⟨rfl, hw7⟩; subst w7) | (go_at_call 31; refine (rin_eq h2 _ (U2.out.below HB.out)).mono ?_; rintro rr w7 ⟨rfl, hw7⟩; subst w7) | (go_at_call 35; refine (rfollows_no HA.out HFO.out _ (U1.out.below HB.out) UD.out HN.out HDL.out hpn).mono ?_; rintro rr w6 ⟨rfl, hb6⟩; have B6 := hidq (below_trans HB.out hb6); clear hb6))
              go_ret2
              exact ⟨rfl, B6.out⟩
      · obtain rfl : k = m := by omega
        have e : L.take k = L := List.take_of_length_le (by rw [HM.out]; omega)
        rw [e] at HCH
        obtain rfl : r = true := HR.out.2 HCH.out
        clear e
        go_wp2
        go_ret2
        exact ⟨rfl, HB.out⟩
  · by_cases hp : M.Ok A ∧ M.okL A H
    · have HP := hidq (M.plsB_okL.2 hp)
      have HQ := hidq (M.plsB_not (A := A) (L := L) fun h' => h ⟨hp.1, hp.2, h'.2⟩)
      clear h hp
      generalize L.length = m at *
      go_enter Try.func19, Try.ntmps19
      go_wp2_with (first | (go_at_call 29; clear T1; refine (rplaces_eq HP.out _ U1.out U2.out).mono ?_; rintro rr w1 ⟨rfl, hb1⟩; have B1 := hidq hb1; clear hb1) | (go_at_call 29; refine (rplaces_eq HQ.out _ (U1.out.below B1.out) (U3.out.below B1.out)).mono ?_; rintro rr w2 ⟨rfl, hb2⟩; have B2 := hidq (below_trans B1.out hb2); clear hb2))
      go_ret2
      exact ⟨rfl, B2.out⟩
    · have HP := hidq (M.plsB_not hp)
      clear h hp
      generalize L.length = m at *
      go_enter Try.func19, Try.ntmps19
      go_wp2_with (first | (go_at_call 29; clear T1; refine (rplaces_eq HP.out _ U1.out U2.out).mono ?_; rintro rr w1 ⟨rfl, hb1⟩; have B1 := hidq hb1; clear hb1))
      go_ret2
      exact ⟨rfl, B1.out⟩
end Go.Proofs.Ythkkclhjpgkhaaa
