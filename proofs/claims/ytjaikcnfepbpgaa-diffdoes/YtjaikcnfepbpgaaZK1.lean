/-
  What leaf.Many answers at every input. Conditions: the slice holds spans of numbers that fit.
-/
import Derived.Test.YtjaikcnfepbpgaaZLN
namespace Go.Proofs.Ytjaikcnfepbpgaa
open Go.RowKit
theorem drop_span {S : List (Int × Int)} (k : Nat) (hk : k < S.length) : S.drop k = S[k]?.getD (0, 0) :: S.drop (k + 1) := by
  rw [List.drop_eq_getElem_cons hk]; simp [hk]
theorem span_mem {S : List (Int × Int)} {P : Int × Int → Prop} (h : ∀ x ∈ S, P x) (k : Nat) (hk : k < S.length) : P (S[k]?.getD (0, 0)) := by
  have : S[k]?.getD (0, 0) = S[k] := by simp [hk]
  rw [this]; exact h _ (List.getElem_mem hk)
set_option maxRecDepth 100000 in
set_option maxHeartbeats 1000000 in
theorem many_any (h : Int) (S : List (Int × Int)) (v : Value) (w : World) (hu : Ps w v S) :
    Calls Try.prog 19 #[.int .i64 h, v] w fun e w' => e = .returned (.tuple #[.int .u64 (M.manyV h S), .int .i64 (M.manyE h S)]) ∧ Below w.heap.size w w' := by
  obtain ⟨ao, cap, rfl, hq1, hq2, hq3, hq4⟩ := hu
  have hm : S.length ≤ maxLen := by omega
  unfold maxLen at hm
  cases hh : M.htB h
  · have e1 : M.lastE h = 1 := by unfold M.lastE; rw [hh]; rfl
    have e2 : M.manyE h S = 1 := by unfold M.manyE M.manyB; rw [hh]; rfl
    have e3 : M.manyV h S = 0 := by unfold M.manyV M.manyB; rw [hh]; rfl
    rw [e2, e3]
    clear hq3 hq4
    generalize S.length = n at *
    go_enter Try.func19, Try.ntmps19
    go_wp2_with (first | (go_at_call 37; refine (lastLeaf_any _ _).mono ?_; rintro e w1 ⟨rfl, hb1⟩))
    go_ret2
    exact ⟨rfl, hb1⟩
  · have e1 : M.lastE h = 0 := by unfold M.lastE; rw [hh]; rfl
    have e2 : M.lastV h = M.p2 h - 1 := by unfold M.lastV; rw [hh]; rfl
    obtain ⟨h1, h2⟩ := M.ht_of hh
    have h3 := M.p2_32 h2
    have h4 := M.p2_pos h
    have HE : Hid (M.manyE h S = if M.spans 0 (M.p2 h - 1) S then 0 else 1) := by show _ = _; unfold M.manyE M.manyB; rw [hh]; rfl
    have HV : Hid (M.manyV h S = if M.spans 0 (M.p2 h - 1) S then M.many S else 0) := by show _ = _; unfold M.manyV M.manyB; rw [hh]; rfl
    have HQ3 : Hid (∀ k, k < S.length → 0 ≤ (S[k]?.getD (0, 0)).1 ∧ (S[k]?.getD (0, 0)).1 ≤ 18446744073709551615 ∧ 0 ≤ (S[k]?.getD (0, 0)).2 ∧ (S[k]?.getD (0, 0)).2 ≤ 18446744073709551615) := fun k hk => span_mem hq3 k hk
    have HD : Hid (∀ k, k < S.length → S.drop k = S[k]?.getD (0, 0) :: S.drop (k + 1)) := fun k hk => drop_span k hk
    have l0 : 0 ≤ M.p2 h - 1 := by omega
    have l1 : M.p2 h - 1 ≤ 4294967295 := by omega
    generalize M.p2 h - 1 = last at *
    generalize hn : S.length = n at *
    have Hn := hid hn
    clear hq3 hn h3 h4 hh
    go_enter Try.func19, Try.ntmps19
    go_wp2_with (first | (go_at_call 37; refine (lastLeaf_any _ _).mono ?_; rintro e w1 ⟨rfl, hb1⟩))
    go_loopw [22, 8, 9] (fun i t u wr => ∃ (k : Nat) (sm x : Int), k ≤ n ∧ i = .int .i64 k ∧ t = .int .u64 sm ∧ u = .int .u64 x ∧ 0 ≤ sm ∧ sm ≤ x ∧ x ≤ 4294967296 ∧ M.spans 0 last S = M.spans x last (S.drop k) ∧ M.many S = sm + M.many (S.drop k) ∧ Below w.heap.size w wr) (fun i _ _ _ => n - (intOf i).toNat)
    case atStart => exact ⟨0, 0, 0, by omega, rfl, rfl, rfl, by omega, by omega, by omega, by rw [List.drop_zero], by rw [List.drop_zero]; omega, hb1⟩
    case round =>
      clear hb1
      obtain ⟨k, sm, x, hk, rfl, rfl, rfl, s0, s1, s2, hR, hM, hb⟩ := hrel
      by_cases hlt : k < n
      · obtain ⟨b, off, rfl, hbl, hc⟩ := hq4 (by omega)
        have hc1 := (hb.cell (p := ⟨b, off + k * 2, none⟩) hbl).trans (hc k hlt).1
        have hc2 := (hb.cell (p := ⟨b, off + k * 2 + 1, none⟩) hbl).trans (hc k hlt).2
        obtain ⟨y0, y1, y2, y3⟩ := HQ3.out k hlt
        rw [HD.out k hlt] at hR hM
        simp only [M.spans, M.many] at hR hM
        have HR := hid hR
        have HM := hid hM
        clear hR hM hc HD HQ3 hq4
        generalize (S[k]?.getD (0, 0)).1 = y at *
        generalize (S[k]?.getD (0, 0)).2 = z at *
        by_cases c1 : x ≤ y
        · by_cases c2 : y ≤ z
          · by_cases c3 : z ≤ last
            · have g1 : ¬ (y < x) := by omega
              have g2 : ¬ (z < y) := by omega
              have g3 : ¬ (last < z) := by omega
              have HX : Hid (M.spans 0 last S = M.spans (z + 1) last (S.drop (k + 1))) := by show _ = _; rw [HR.out]; simp [c1, c2, c3]
              have HY : Hid (M.many S = sm + (z - y + 1) + M.many (S.drop (k + 1))) := by show _ = _; rw [HM.out]; omega
              clear HR HM HE HV
              go_wp2
              go_roundw
              case rel => exact ⟨k + 1, sm + (z - y + 1), z + 1, by omega, by go_num, by go_num, by go_num, by omega, by omega, by omega, HX.out, HY.out, hb.alloc hb.size _⟩
              case measure => simp [intOf]; omega
            · have g1 : ¬ (y < x) := by omega
              have g2 : ¬ (z < y) := by omega
              have g3 : (last < z) := by omega
              have HX : M.spans 0 last S = false := by rw [HR.out]; simp [c3]
              rw [HX] at HE HV
              clear HR HM HX
              go_wp2
              go_ret2
              exact ⟨by rw [HE.out, HV.out]; rfl, hb.alloc hb.size _⟩
          · have g1 : ¬ (y < x) := by omega
            have g2 : (z < y) := by omega
            have HX : M.spans 0 last S = false := by rw [HR.out]; simp [c2]
            rw [HX] at HE HV
            clear HR HM HX
            go_wp2
            go_ret2
            exact ⟨by rw [HE.out, HV.out]; rfl, hb.alloc hb.size _⟩
        · have g1 : (y < x) := by omega
          have HX : M.spans 0 last S = false := by rw [HR.out]; simp [c1]
          rw [HX] at HE HV
          clear HR HM HX
          go_wp2
          go_ret2
          exact ⟨by rw [HE.out, HV.out]; rfl, hb.alloc hb.size _⟩
      · obtain rfl : k = n := by omega
        rw [← Hn.out, List.drop_length] at hR hM
        have HX : M.spans 0 last S = true := by rw [hR]; rfl
        have HY : M.many S = sm := by rw [hM]; simp [M.many]
        rw [HX, HY] at HV
        rw [HX] at HE
        clear hR hM HD HQ3 hq4 HX HY
        go_wp2
        go_ret2
        exact ⟨by rw [HE.out, HV.out]; rfl, hb⟩
end Go.Proofs.Ytjaikcnfepbpgaa
