/-
  What the document's own answer Many of layer 2 comes to. Conditions: the slice holds spans of numbers that fit.
-/
import Derived.Test.YtbgfbhfjlphpkaaK3
namespace Go.Proofs.Ytbgfbhfjlphpkaa
open Go.RowKit
def M.prevH (S : List (Int × Int)) (k : Nat) : Int := if k = 0 then -1 else (S[k - 1]?.getD (0, 0)).2
theorem M.prevH_succ (S : List (Int × Int)) (k : Nat) : M.prevH S (k + 1) = (S[k]?.getD (0, 0)).2 := by unfold M.prevH; rw [if_neg (by omega)]; rfl
set_option maxRecDepth 100000 in
set_option maxHeartbeats 1000000 in
theorem rmany_any (h : Int) (S : List (Int × Int)) (v : Value) (w : World) (hu : Ps w v S) :
    Calls Try.prog 24 #[.int .i64 h, v] w fun e w' => e = .returned (.tuple #[.int .u64 (M.manyV h S), .int .i64 (M.manyE h S)]) ∧ Below w.heap.size w w' := by
  obtain ⟨ao, cap, rfl, hq1, hq2, hq3, hq4⟩ := hu
  have hm : S.length ≤ maxLen := by omega
  unfold maxLen at hm
  have e0 := M.eChk_one h
  cases hh : M.htB h
  · have e2 : M.manyE h S = 1 := by unfold M.manyE M.manyB; rw [hh]; rfl
    have e3 : M.manyV h S = 0 := by unfold M.manyV M.manyB; rw [hh]; rfl
    rw [hh] at e0
    have e4 : M.eChk h 1 = 1 := e0
    rw [e2, e3]
    clear hq3 hq4 e0
    generalize S.length = n at *
    go_enter Try.func24, Try.ntmps24
    go_wp2_with (first | (go_at_call 33; refine (rcheck_any _ _ _ (by omega) (by omega)).mono ?_; rintro e w' ⟨rfl, hw⟩; subst w'))
    go_ret2
    exact ⟨rfl, Below.refl _ _⟩
  · rw [hh] at e0
    have e4 : M.eChk h 1 = 0 := e0
    obtain ⟨h1, h2⟩ := M.ht_of hh
    have h3 := M.p2_32 h2
    have h4 := M.p2_pos h
    have HE : Hid (M.manyE h S = if M.spans 0 (M.p2 h - 1) S then 0 else 1) := by show _ = _; unfold M.manyE M.manyB; rw [hh]; rfl
    have HV : Hid (M.manyV h S = if M.spans 0 (M.p2 h - 1) S then M.many S else 0) := by show _ = _; unfold M.manyV M.manyB; rw [hh]; rfl
    have HQ3 : Hid (∀ k, k < S.length → 0 ≤ (S[k]?.getD (0, 0)).1 ∧ (S[k]?.getD (0, 0)).1 ≤ 18446744073709551615 ∧ 0 ≤ (S[k]?.getD (0, 0)).2 ∧ (S[k]?.getD (0, 0)).2 ≤ 18446744073709551615) := fun k hk => span_mem hq3 k hk
    have HD : Hid (∀ k, k < S.length → S.drop k = S[k]?.getD (0, 0) :: S.drop (k + 1)) := fun k hk => drop_span k hk
    have HI : Hid (∀ i, M.isB h i = decide (i ≤ M.p2 h - 1)) := fun i => M.isB_ht hh
    have l0 : 0 ≤ M.p2 h - 1 := by omega
    have l1 : M.p2 h - 1 ≤ 4294967295 := by omega
    generalize M.p2 h - 1 = last at *
    generalize hn : S.length = n at *
    have Hn := hid hn
    clear hq3 hn h3 h4 hh e0
    go_enter Try.func24, Try.ntmps24
    go_wp2_with (first | (go_at_call 33; refine (rcheck_any _ _ _ (by omega) (by omega)).mono ?_; rintro e w' ⟨rfl, hw⟩; subst w'))
    go_loopw [14, 6] (fun i t wr => ∃ (k : Nat) (sm : Int), k ≤ n ∧ i = .int .i64 k ∧ t = .int .u64 sm ∧ 0 ≤ sm ∧ sm ≤ M.prevH S k + 1 ∧ M.prevH S k + 1 ≤ 4294967296 ∧ M.spans 0 last S = M.spans (M.prevH S k + 1) last (S.drop k) ∧ M.many S = sm + M.many (S.drop k) ∧ Below w.heap.size w wr) (fun i _ _ => n - (intOf i).toNat)
    case atStart => exact ⟨0, 0, by omega, rfl, rfl, by omega, by unfold M.prevH; simp, by unfold M.prevH; simp, by rw [List.drop_zero]; rfl, by rw [List.drop_zero]; omega, Below.refl _ _⟩
    case round =>
      obtain ⟨k, sm, hk, rfl, rfl, s0, s1, s2, hR, hM, hb⟩ := hrel
      by_cases hlt : k < n
      · obtain ⟨b, off, rfl, hbl, hc⟩ := hq4 (by omega)
        have hc1 := (hb.cell (p := ⟨b, off + k * 2, none⟩) hbl).trans (hc k hlt).1
        have hc2 := (hb.cell (p := ⟨b, off + k * 2 + 1, none⟩) hbl).trans (hc k hlt).2
        have hbw : b < wr.heap.size := Nat.lt_of_lt_of_le hbl hb.size
        have hpc : 0 < k → ∀ ob, (wr.alloc ob).cell? ⟨b, off + (k - 1) * 2 + 1, none⟩ = some (.int .u64 (M.prevH S k)) := by
          intro hk0 ob
          rw [((Below.refl _ wr).alloc (Nat.le_refl _) ob).cell (p := ⟨b, off + (k - 1) * 2 + 1, none⟩) hbw, hb.cell (p := ⟨b, off + (k - 1) * 2 + 1, none⟩) hbl, (hc (k - 1) (by omega)).2]
          unfold M.prevH; rw [if_neg (by omega)]
        have hp0 : k = 0 → M.prevH S k = -1 := by intro e; unfold M.prevH; rw [if_pos e]
        have hpf : 0 < k → 0 ≤ M.prevH S k := by
          intro hk0
          unfold M.prevH; rw [if_neg (by omega)]
          exact (HQ3.out (k - 1) (by omega)).2.2.1
        obtain ⟨y0, y1, y2, y3⟩ := HQ3.out k hlt
        have hI := HI.out (S[k]?.getD (0, 0)).2
        have HPS := hid (M.prevH_succ S k)
        rw [HD.out k hlt] at hR hM
        simp only [M.spans, M.many] at hR hM
        have HR := hid hR
        have HM := hid hM
        clear hR hM hc HD HQ3 hq4 HI
        generalize (S[k]?.getD (0, 0)).1 = y at *
        generalize (S[k]?.getD (0, 0)).2 = z at *
        generalize M.prevH S k = p at *
        by_cases c2 : y ≤ z
        · by_cases c3 : z ≤ last
          · have g3 : M.isB h z = true := by rw [hI]; simpa using c3
            clear hI
            have g2 : decide (z < y) = false := by simp; omega
            by_cases hk0 : k = 0
            · have hp := hp0 hk0
              subst hk0
              have HX : Hid (M.spans 0 last S = M.spans (z + 1) last (S.drop (0 + 1))) := by show _ = _; rw [HR.out, hp]; simp [c2, c3]; omega
              have HY : Hid (M.many S = sm + (z - y + 1) + M.many (S.drop (0 + 1))) := by show _ = _; rw [HM.out]; omega
              rw [show off + 0 * 2 = off by omega] at hc1 hc2
              have hsm0 : sm ≤ 0 := by omega
              clear HR HM HE HV hpc hp0 hpf hp
              go_wp2
              go_quiet ((go_at_call 29; exact Calls.quiet_of_same (ris_any _ _ _ (by omega) (by omega))))
              go_wp2
              go_roundw
              case rel => exact ⟨0 + 1, sm + (z - y + 1), by omega, by go_num, by go_num, by omega, by rw [HPS.out]; omega, by rw [HPS.out]; omega, by rw [HPS.out]; exact HX.out, HY.out, below_drewN (hb.alloc hb.size _) _⟩
              case measure => simp [intOf]; omega
            · have hpc' := hpc (by omega) (.cells #[.int .u64 y, .int .u64 z] 41)
              have hpf' := hpf (by omega)
              have gk : (0 : Int) < k := by omega
              have gkn : 0 < k := by omega
              have gk1 : ((k : Int) - 1).toNat = k - 1 := by omega
              have gk2 : (0 : Int) ≤ (k : Int) - 1 := by omega
              have gk3 : (k : Int) - 1 < (n : Int) := by omega
              by_cases c1 : y ≤ p
              · have HX : M.spans 0 last S = false := by rw [HR.out]; simp; omega
                rw [HX] at HE HV
                clear HR HM HX hpc hp0 hpf
                go_wp2
                go_quiet ((go_at_call 29; exact Calls.quiet_of_same (ris_any _ _ _ (by omega) (by omega))))
                go_wp2
                go_ret2
                exact ⟨by rw [HE.out, HV.out]; rfl, below_drewN (hb.alloc hb.size _) _⟩
              · have g1 : ¬ (y ≤ p) := c1
                have HX : Hid (M.spans 0 last S = M.spans (z + 1) last (S.drop (k + 1))) := by show _ = _; rw [HR.out]; simp [c2, c3]; omega
                have HY : Hid (M.many S = sm + (z - y + 1) + M.many (S.drop (k + 1))) := by show _ = _; rw [HM.out]; omega
                clear HR HM HE HV hpc hp0 hpf
                go_wp2
                go_quiet ((go_at_call 29; exact Calls.quiet_of_same (ris_any _ _ _ (by omega) (by omega))))
                go_wp2
                go_roundw
                case rel => exact ⟨k + 1, sm + (z - y + 1), by omega, by go_num, by go_num, by omega, by rw [HPS.out]; omega, by rw [HPS.out]; omega, by rw [HPS.out]; exact HX.out, HY.out, below_drewN (hb.alloc hb.size _) _⟩
                case measure => simp [intOf]; omega
          · have g3 : M.isB h z = false := by rw [hI]; simpa using c3
            have g2 : decide (z < y) = false := by simp; omega
            have HX : M.spans 0 last S = false := by rw [HR.out]; simp [c3]
            rw [HX] at HE HV
            clear HR HM HX hI hpc hp0 hpf
            go_wp2
            go_quiet ((go_at_call 29; exact Calls.quiet_of_same (ris_any _ _ _ (by omega) (by omega))))
            go_wp2
            go_ret2
            exact ⟨by rw [HE.out, HV.out]; rfl, below_drewN (hb.alloc hb.size _) _⟩
        · have g2 : (z < y) := by omega
          have HX : M.spans 0 last S = false := by rw [HR.out]; simp [c2]
          rw [HX] at HE HV
          clear HR HM HX hI hpc hp0 hpf
          go_wp2
          go_quiet ((go_at_call 29; exact Calls.quiet_of_same (ris_any _ _ _ (by omega) (by omega))))
          go_wp2
          go_ret2
          exact ⟨by rw [HE.out, HV.out]; rfl, below_drewN (hb.alloc hb.size _) _⟩
      · obtain rfl : k = n := by omega
        rw [← Hn.out, List.drop_length] at hR hM
        have HX : M.spans 0 last S = true := by rw [hR]; rfl
        have HY : M.many S = sm := by rw [hM]; simp [M.many]
        rw [HX, HY] at HV
        rw [HX] at HE
        clear hR hM HD HQ3 hq4 HX HY HI
        go_wp2
        go_ret2
        exact ⟨by rw [HE.out, HV.out]; rfl, hb⟩
end Go.Proofs.Ytbgfbhfjlphpkaa
