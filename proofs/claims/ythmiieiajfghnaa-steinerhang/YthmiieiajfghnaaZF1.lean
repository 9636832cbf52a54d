/-
  What leaf's own small functions lastLeaf, isSet, checkSet and Check answer at every input. Conditions: the slice holds numbers that fit.
-/
import Derived.Test.YthmiieiajfghnaaZS1
namespace Go.Proofs.Ythmiieiajfghnaa
open Go.RowKit
def M.lastV (h : Int) : Int := if M.htB h then M.p2 h - 1 else 0
def M.setLast (h : Int) (L : List Int) : Int := if M.setB h L then M.p2 h - 1 else 0
def M.lastE (h : Int) : Int := if M.htB h then 0 else 1
set_option maxHeartbeats 400000 in
theorem lastLeaf_any (h : Int) (w : World) :
    Calls Try.prog 66 #[.int .i64 h] w fun e w' => e = .returned (.tuple #[.int .u64 (M.lastV h), .int .i64 (M.lastE h)]) ∧ Below w.heap.size w w' := by
  have e1 : M.highV h 1 = M.lastV h := M.highV_one h
  have e2 : M.eChk h 1 = M.lastE h := M.eChk_one h
  have e3 := M.lowV_one h
  go_enter Try.func66, Try.ntmps66
  go_wp2_with (first | (go_at_call 26; refine (leaves_any _ _ _ (by omega) (by omega)).mono ?_; rintro e w1 ⟨rfl, hb1⟩))
  go_ret2
  exact ⟨rfl, hb1.alloc hb1.size _⟩
set_option maxRecDepth 100000 in
set_option maxHeartbeats 400000 in
theorem isSet_any (L : List Int) (v : Value) (last : Int) (w : World) (hu : Us w v L) (h0 : 0 ≤ last) (h1 : last ≤ 4294967295) :
    Calls Try.prog 67 #[v, .int .u64 last] w fun e w' => e = .returned (.bool (decide (L.length ≤ 1024) && M.rise 0 last L)) ∧ w' = w := by
  obtain ⟨ao, cap, rfl, hq1, hq2, hq3, hq4⟩ := hu
  have HQ3 : Hid (∀ k, k < L.length → 0 ≤ L[k]?.getD 0 ∧ L[k]?.getD 0 ≤ 18446744073709551615) := fun k hk => getD_mem hq3 k hk
  have HD : Hid (∀ k, k < L.length → L.drop k = L[k]?.getD 0 :: L.drop (k + 1)) := fun k hk => drop_getD k hk
  by_cases hl : L.length ≤ 1024
  · have hd : decide (L.length ≤ 1024) = true := by simpa using hl
    rw [hd, Bool.true_and]
    generalize hn : L.length = n at *
    have Hn : Hid (L.length = n) := hn
    clear hq3 hd hn
    go_enter Try.func67, Try.ntmps67
    go_wp2
    go_loop [13, 5] (fun i t => ∃ (k : Nat) (x : Int), k ≤ n ∧ i = .int .i64 k ∧ t = .int .u64 x ∧ 0 ≤ x ∧ x ≤ 4294967296 ∧ M.rise 0 last L = M.rise x last (L.drop k)) (fun i _ => n - (intOf i).toNat)
    case atStart => exact ⟨0, 0, by omega, rfl, rfl, by omega, by omega, by rw [List.drop_zero]⟩
    case round =>
      obtain ⟨k, x, hk, rfl, rfl, hx0, hx1, hR⟩ := hrel
      by_cases hlt : k < n
      · obtain ⟨b, off, rfl, hb, hc⟩ := hq4 (by omega)
        have hcell := hc k hlt
        obtain ⟨y0, y1⟩ := HQ3.out k hlt
        rw [HD.out k hlt] at hR
        generalize L[k]?.getD 0 = y at *
        simp only [M.rise] at hR
        have HR : Hid (M.rise 0 last L = (decide (x ≤ y) && decide (y ≤ last) && M.rise (y + 1) last (L.drop (k + 1)))) := hR
        clear hR hc HD HQ3 hq4
        by_cases c1 : x ≤ y
        · by_cases c2 : y ≤ last
          · have g1 : ¬ (y < x) := by omega
            have g2 : ¬ (last < y) := by omega
            go_wp2
            go_round
            case rel => exact ⟨k + 1, y + 1, by omega, by go_num, by go_num, by omega, by omega, by rw [HR.out]; simp [c1, c2]⟩
            case measure => simp [intOf]; omega
          · have g1 : ¬ (y < x) := by omega
            have g2 : (last < y) := by omega
            have HF : Hid (M.rise 0 last L = false) := by show _ = _; rw [HR.out]; simp [c2]
            clear HR
            go_wp2
            go_ret
            exact ⟨M.ret_bool HF.out.symm, rfl⟩
        · have g1 : (y < x) := by omega
          have HF : Hid (M.rise 0 last L = false) := by show _ = _; rw [HR.out]; simp [c1]
          clear HR
          go_wp2
          go_ret
          exact ⟨M.ret_bool HF.out.symm, rfl⟩
      · obtain rfl : k = n := by omega
        have HR : Hid (M.rise 0 last L = true) := by
          show _ = _
          rw [hR, ← Hn.out, List.drop_length]; rfl
        clear hR HD HQ3 hq4
        go_wp2
        go_ret
        exact ⟨M.ret_bool HR.out.symm, rfl⟩
  · have hd : decide (L.length ≤ 1024) = false := by simpa using hl
    rw [hd, Bool.false_and]
    have hm : L.length ≤ maxLen := by omega
    unfold maxLen at hm
    clear hq3 hd HQ3 HD hq4
    generalize hn : L.length = n at *
    go_enter Try.func67, Try.ntmps67
    go_wp2
    go_ret
    exact ⟨rfl, rfl⟩
set_option maxHeartbeats 400000 in
theorem checkSet_any (h : Int) (L : List Int) (v : Value) (w : World) (hu : Us w v L) :
    Calls Try.prog 52 #[.int .i64 h, v] w fun e w' => e = .returned (.tuple #[.int .u64 (M.setLast h L), .int .i64 (M.setE h L)]) ∧ Below w.heap.size w w' := by
  cases hh : M.htB h
  · have e1 : M.lastE h = 1 := by unfold M.lastE; rw [hh]; rfl
    have e2 : M.setB h L = false := by unfold M.setB; rw [hh]; rfl
    have e3 : M.setE h L = 1 := by unfold M.setE; rw [e2]; rfl
    have e5 : M.setLast h L = 0 := by unfold M.setLast; rw [e2]; rfl
    rw [e5, e3]
    clear hh
    go_enter Try.func52, Try.ntmps52
    go_wp2_with (first | (go_at_call 66; refine (lastLeaf_any _ _).mono ?_; rintro e w1 ⟨rfl, hb1⟩))
    go_ret2
    exact ⟨rfl, hb1⟩
  · have e1 : M.lastE h = 0 := by unfold M.lastE; rw [hh]; rfl
    have e2 : M.lastV h = M.p2 h - 1 := by unfold M.lastV; rw [hh]; rfl
    obtain ⟨h1, h2⟩ := M.ht_of hh
    have h3 := M.p2_32 h2
    have h4 := M.p2_pos h
    cases hs : (decide (L.length ≤ 1024) && M.rise 0 (M.p2 h - 1) L)
    · have e4 : M.setB h L = false := by unfold M.setB; rw [hh, Bool.and_assoc, hs]; rfl
      have e3 : M.setE h L = 1 := by unfold M.setE; rw [e4]; rfl
      have e5 : M.setLast h L = 0 := by unfold M.setLast; rw [e4]; rfl
      rw [e5, e3]
      go_enter Try.func52, Try.ntmps52
      go_wp2_with (first | (go_at_call 66; refine (lastLeaf_any _ _).mono ?_; rintro e w1 ⟨rfl, hb1⟩) | (go_at_call 67; refine (isSet_any L _ _ _ (hu.below hb1) (by omega) (by omega)).mono ?_; rintro e w' ⟨rfl, hw⟩; subst w'))
      go_ret2
      exact ⟨rfl, hb1⟩
    · have e4 : M.setB h L = true := by unfold M.setB; rw [hh, Bool.and_assoc, hs]; rfl
      have e3 : M.setE h L = 0 := by unfold M.setE; rw [e4]; rfl
      have e5 : M.setLast h L = M.p2 h - 1 := by unfold M.setLast; rw [e4]; rfl
      rw [e5, e3]
      go_enter Try.func52, Try.ntmps52
      go_wp2_with (first | (go_at_call 66; refine (lastLeaf_any _ _).mono ?_; rintro e w1 ⟨rfl, hb1⟩) | (go_at_call 67; refine (isSet_any L _ _ _ (hu.below hb1) (by omega) (by omega)).mono ?_; rintro e w' ⟨rfl, hw⟩; subst w'))
      go_ret2
      exact ⟨rfl, hb1⟩
set_option maxHeartbeats 400000 in
theorem setCheck_any (h : Int) (L : List Int) (v : Value) (w : World) (hu : Us w v L) :
    Calls Try.prog 31 #[.int .i64 h, v] w fun e w' => e = .returned (.int .i64 (M.setE h L)) ∧ Below w.heap.size w w' := by
  go_enter Try.func31, Try.ntmps31
  go_wp2_with (first | (go_at_call 52; refine (checkSet_any _ L _ _ hu).mono ?_; rintro e w1 ⟨rfl, hb1⟩))
  go_ret
  exact ⟨rfl, hb1⟩
end Go.Proofs.Ythmiieiajfghnaa
