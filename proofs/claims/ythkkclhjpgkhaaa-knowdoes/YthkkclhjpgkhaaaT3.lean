/-
  What the document's own Check, Find and there come to at every input. Conditions: the slice holds terms.
-/
import Derived.Test.YthkkclhjpgkhaaaT2
namespace Go.Proofs.Ythkkclhjpgkhaaa
open Go.RowKit
theorem rmay_eq {t : M.Tm} {i : Int} {r : Bool} (h : M.mayB t i = r) (w : World) :
    Calls Try.prog 62 #[.agg #[.int .i64 t.1, .int .i64 t.2.1, .int .i64 t.2.2], .int .i64 i] w fun e w' => e = .returned (.bool r) ∧ Below w.heap.size w w' := by subst h; exact rmay_any t i w
theorem rplace_eq {A : List M.Tm} {t : M.Tm} {r : Int} (h : M.plcI A t = r) {v : Value} (w : World) (u : Ts w v A) :
    Calls Try.prog 63 #[v, .agg #[.int .i64 t.1, .int .i64 t.2.1, .int .i64 t.2.2]] w fun e w' => e = .returned (.int .i64 r) ∧ Below w.heap.size w w' := by subst h; exact rplace_any A t v w u
theorem Ts.take {W : World} {b off cap n : Nat} {L : List M.Tm} (h : Ts W (.slice (some ⟨b, off, none⟩) n cap) L) {k : Nat} (hk : k ≤ n) (hc : n ≤ cap) (h0 : 0 < cap) : Ts W (.slice (some ⟨b, off, none⟩) k cap) (L.take k) := by
  have := Sl.part h 0 k cap (Nat.zero_le _) hk (by omega) (Nat.le_refl _) h0
  simpa using this
set_option maxRecDepth 100000 in
set_option maxHeartbeats 4000000 in
theorem rcheck_any (A : List M.Tm) (v1 : Value) (w : World) (u1 : Ts w v1 A) :
    Calls Try.prog 48 #[v1] w fun e w' => e = .returned (.int .i64 (M.chkE A)) ∧ Below w.heap.size w w' := by
  obtain ⟨a1, c1, rfl, hp1, hp2, hp4⟩ := u1.form
  have hm : A.length ≤ maxLen := by omega
  unfold maxLen at hm
  have U1 := hidq u1
  have HP4 := hidq hp4
  clear hp4 u1
  obtain ⟨r, hr⟩ : ∃ r, M.chkE A = r := ⟨_, rfl⟩
  have HR := hidq hr
  rw [hr]
  clear hr
  by_cases h16 : A.length ≤ 65536
  · generalize hn : A.length = n at *
    have HN := hidq hn
    clear hn
    go_enter Try.func48, Try.ntmps48
    go_wp2
    go_loopw [10] (fun i wr => ∃ k : Nat, k ≤ n ∧ i = .int .i64 k ∧ Below w.heap.size w wr ∧ ∀ j, j < k → M.okAt A j) (fun i _ => n - (intOf i).toNat)
    case atStart => exact ⟨0, by omega, rfl, Below.refl _ _, fun j hj => by omega⟩
    case round =>
      obtain ⟨k, hk, rfl, hb, hall⟩ := hrel
      have HA := hidq hall
      have HB := hidq hb
      clear hall
      by_cases hlt : k < n
      · obtain ⟨b1, o1, rfl⟩ := HP4.out (by omega)
        obtain ⟨x1, x2, x3⟩ := Ts.cell (U1.out.below hb) (k := k) (by rw [HN.out]; exact hlt)
        clear hb
        obtain ⟨s, hs⟩ : ∃ s, M.at_ A k = s := ⟨_, rfl⟩
        rw [hs] at x1 x2 x3
        have HS := hidq hs
        clear hs
        have k0 : (0 : Int) ≤ k := by omega
        have k1 : (k : Int) ≤ c1 := by omega
        have k2 : ¬ c1 = 0 := by omega
        go_wp2
        have XB := Bx3.new wr s
        have hB1 := below_one (o := .cells #[.int .i64 s.1, .int .i64 s.2.1, .int .i64 s.2.2] 41) HB.out
        have U2 := U1.out.below hB1
        generalize wr.alloc (.cells #[.int .i64 s.1, .int .i64 s.2.1, .int .i64 s.2.2] 41) = W at *
        generalize wr.heap.size = Bs at *
        obtain ⟨G, HG, HF, HO, HW, ne⟩ := clq_of w W (fun X => Bx3 X Bs s ∧ Ts X (.slice (some ⟨b1, o1, none⟩) n c1) A) (fun _ _ h hb => ⟨h.1.below hb, h.2.below hb⟩) ⟨XB, U2⟩ hB1
        have h1 := fun c : Clq G => (HF.out c).1.cells
        clear XB hB1 U2 x1 x2 x3
        by_cases hM : M.mayB s k = true
        · have HM := hidq hM
          clear hM
          cases hp : M.plc s (A.take k) with
          | none =>
            have HP := hidq (M.plcI_none hp)
            have HK : Hid (M.okAt A k) := ⟨by rw [HS.out]; exact HM.out, by rw [HS.out]; exact hp⟩
            clear hp
            refine regionq (by kernel_rfl) (by kernel_rfl) HW.out ?_
            repeat (go_big_quiet_step (first | (go_at_call 62; exact quietq HG.out _ (rmay_eq HM.out _)) | (go_at_call 63; exact quietq HG.out _ (rplace_eq HP.out _ (Ts.take (HF.out _).2 hk hp1 (by omega))))))
            refine wpQuiet_nil ?_
            rintro _ ⟨c2, rfl⟩
            have hB2 := hidq (HO.out c2)
            go_wp2
            go_roundw
            case rel => exact ⟨k + 1, by omega, by go_num, hB2.out, fun j hj => by
              rcases Nat.lt_or_ge j k with h | h
              · exact HA.out j h
              · obtain rfl : j = k := by omega
                exact HK.out⟩
            case measure => simp [intOf]; omega
          | some i =>
            have HP := hidq (M.plcI_some hp)
            obtain rfl : r = 1 := by
              rw [← HR.out]
              exact if_neg fun h => by
                have := (h.2 k (by rw [HN.out]; exact hlt)).2
                rw [HS.out, hp] at this; cases this
            clear hp
            refine regionq (by kernel_rfl) (by kernel_rfl) HW.out ?_
            repeat (go_big_quiet_step (first | (go_at_call 62; exact quietq HG.out _ (rmay_eq HM.out _)) | (go_at_call 63; exact quietq HG.out _ (rplace_eq HP.out _ (Ts.take (HF.out _).2 hk hp1 (by omega))))))
            refine wpQuiet_nil ?_
            rintro _ ⟨c2, rfl⟩
            have hB2 := hidq (HO.out c2)
            go_wp2
            go_ret
            exact ⟨rfl, hB2.out⟩
        · have HM := hidq (show M.mayB s k = false by simpa using hM)
          obtain rfl : r = 1 := by
            rw [← HR.out]
            exact if_neg fun h => by
              have := (h.2 k (by rw [HN.out]; exact hlt)).1
              rw [HS.out] at this; exact hM this
          clear hM
          refine regionq (by kernel_rfl) (by kernel_rfl) HW.out ?_
          repeat (go_big_quiet_step (first | (go_at_call 62; exact quietq HG.out _ (rmay_eq HM.out _))))
          refine wpQuiet_nil ?_
          rintro _ ⟨c2, rfl⟩
          have hB2 := hidq (HO.out c2)
          go_wp2
          go_ret
          exact ⟨rfl, hB2.out⟩
      · obtain rfl : r = 0 := by
          rw [← HR.out]
          exact if_pos ⟨by rw [HN.out]; exact h16, fun j hj => HA.out j (by rw [HN.out] at hj; omega)⟩
        clear hb
        go_wp2
        go_ret
        exact ⟨rfl, HB.out⟩
  · obtain rfl : r = 1 := by
      rw [← HR.out]
      exact if_neg fun h => h16 h.1
    have h16i : (65536 : Int) < A.length := by omega
    go_enter Try.func48, Try.ntmps48
    go_wp2
    go_ret
    exact ⟨rfl, Below.refl _ _⟩
theorem rcheck_eq {A : List M.Tm} {r : Int} (h : M.chkE A = r) {v : Value} (w : World) (u : Ts w v A) :
    Calls Try.prog 48 #[v] w fun e w' => e = .returned (.int .i64 r) ∧ Below w.heap.size w w' := by subst h; exact rcheck_any A v w u
/-- terms may be, and there is such a place -/
def M.thr (l : List M.Tm) (i : Int) : Bool := decide (M.Ok l) && M.ahd i l.length
end Go.Proofs.Ythkkclhjpgkhaaa
