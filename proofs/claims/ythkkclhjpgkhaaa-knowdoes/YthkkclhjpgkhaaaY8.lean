/-
  What the program's Knows and Why come to. Conditions: each theorem's own premises.
-/
import Derived.Test.YthkkclhjpgkhaaaY7
namespace Go.Proofs.Ythkkclhjpgkhaaa
open Go.RowKit
theorem M.okL_one {A : List M.Tm} {i : Int} : M.okL A [i] ↔ M.Pl A i := ⟨fun h => h.2 i (by simp), fun h => ⟨by simp, fun x hx => by rw [List.mem_singleton] at hx; subst hx; exact h⟩⟩
theorem M.two_ok {A : List M.Tm} {H : List Int} {i : Int} : (M.Ok A ∧ ∀ L ∈ [H, [i]], M.okL A L) ↔ M.Ok A ∧ M.okL A H ∧ M.Pl A i := by simp [M.okL_one]
set_option maxRecDepth 100000 in
set_option maxHeartbeats 4000000 in
theorem knows_ok {A : List M.Tm} {H : List Int} {i : Int} (hA : M.Ok A) (hH : M.okL A H) (hi : M.Pl A i) {r : Bool} (hr : r = true ↔ M.Kn A H i) {v1 v2 : Value} (w : World) (u1 : Ts w v1 A) (u2 : Is w v2 H) :
    Calls Try.prog 14 #[v1, v2, .int .i64 i] w fun e w' => e = .returned (.tuple #[.bool r, .int .i64 0]) ∧ Below w.heap.size w w' := by
  obtain ⟨n, hn⟩ : ∃ n, A.length = n := ⟨_, rfl⟩
  have hl := hA.1
  rw [hn] at hl
  obtain ⟨a2, c2, rfl, _, _, _⟩ := u2.form
  have hi1 := hi.1
  have hi2 := hi.2
  rw [hn] at hi2
  have HFI := hidq (show M.fitI i from ⟨by omega, by omega⟩)
  have U1 := hidq u1
  have U2 := hidq u2
  have HA := hidq hA
  have HH := hidq hH
  have HN := hidq hn
  have HR := hidq (hr_yes (M.two_ok.2 ⟨hA, hH, hi⟩))
  have HK := hidq hr
  clear u1 u2 hA hH hn hi hr
  go_enter Try.func14, Try.ntmps14
  go_upto_region 6 with (first | (go_at_call 25; refine (kcheck_any A [H, [i]] _ _ _ _ ((U1.out.alloc _).alloc _) (iss_two (w.alloc (.cells #[.int .i64 i] 3)) _ (by simp) _ _ _ H (U2.out.alloc _) _ _ _ [i] (is_oneq w _ rfl i HFI.out)) HR.out).mono ?_; rintro rr w1 ⟨rfl, hb1⟩; have B1 := hidq (below_trans (below_one (below_one (Below.refl _ _))) hb1); clear hb1) | (go_at_call 26; refine (mindOf_any n A H _ _ _ (U1.out.below B1.out) (U2.out.below B1.out) HN.out hl (M.okL.lt HH.out HN.out)).mono ?_; rintro rr w2 ⟨B, rfl, hm2, hb2⟩; have M2 := hidq hm2; have B2 := hidq hb2; clear hm2 hb2) | (go_at_call 27; refine (learnAll_any A HA.out H (fun i => w1.heap.size ≤ i) w1.heap.size B _ n _ _ HN.out M2.out (fun i hi => by have := B2.out.size; omega) B2.out.size (fun X hX => U1.out.below (below_trans B1.out (B2.out.trans (hX.below (fun _ h => h) B2.out.size)))) ((M.Chn.nil A H).lrn fun x hx => .inl hx) ((M.Gd.nil n).lrn (M.okL.lt HH.out HN.out)) (fun h hh => M.lrn_mem.2 (.inr hh))).mono ?_; rintro rr w3 ⟨rfl, D, hm3, hc3, hg3, hk3, ho3⟩; have M3 := hidq hm3; have C3 := hidq hc3; have G3 := hidq hg3; have K3 := hidq hk3; have B3 := hidq (below_trans B1.out (B2.out.trans (ho3.below (fun _ h => h) B2.out.size))); have S3 := hidq (show w1.heap.size ≤ w3.heap.size from Nat.le_trans B2.out.size ho3.size); clear hm3 hc3 hg3 hk3 ho3))
  (obtain ⟨g, vo, h1, h2, h3, _, _, _⟩ := M3.out; have q1 := h1.cell 1; have q2 := h1.cell 2; have hdl := G3.out.len)
  obtain ⟨p, rfl⟩ : ∃ p : Nat, i = p := ⟨i.toNat, by omega⟩
  have hpn : p < n := by omega
  have q3 := ownB_cell h2 hpn
  have e : decide ((p : Int) ∈ D) = r := by
    rw [Bool.eq_iff_iff, decide_eq_true_eq, HK.out]
    exact K3.out p
  rw [e] at q3
  clear h1 h2 h3 q2 e
  go_wp2
  go_ret2
  exact ⟨rfl, B3.out⟩
set_option maxRecDepth 100000 in
theorem knows_no {A : List M.Tm} {H : List Int} {i : Int} (hf : M.fitI i) (h : ¬ (M.Ok A ∧ M.okL A H ∧ M.Pl A i)) {v1 v2 : Value} (w : World) (u1 : Ts w v1 A) (u2 : Is w v2 H) :
    Calls Try.prog 14 #[v1, v2, .int .i64 i] w fun e w' => e = .returned (.tuple #[.bool false, .int .i64 1]) ∧ Below w.heap.size w w' := by
  obtain ⟨a2, c2, rfl, _, _, _⟩ := u2.form
  have U1 := hidq u1
  have U2 := hidq u2
  have HFI := hidq hf
  have HR := hidq (hr_no (fun h' => h (M.two_ok.1 h')))
  clear u1 u2 h hf
  go_enter Try.func14, Try.ntmps14
  go_wp2_with (first | (go_at_call 25; refine (kcheck_any A [H, [i]] _ _ _ _ ((U1.out.alloc _).alloc _) (iss_two (w.alloc (.cells #[.int .i64 i] 3)) _ (by simp) _ _ _ H (U2.out.alloc _) _ _ _ [i] (is_oneq w _ rfl i HFI.out)) HR.out).mono ?_; rintro rr w1 ⟨rfl, hb1⟩; have B1 := hidq (below_trans (below_one (below_one (Below.refl _ _))) hb1); clear hb1))
  go_ret2
  exact ⟨rfl, B1.out⟩
set_option maxRecDepth 100000 in
theorem why_no {A : List M.Tm} {H : List Int} {i : Int} (hf : M.fitI i) (h : ¬ (M.Ok A ∧ M.okL A H ∧ M.Pl A i)) {v1 v2 : Value} (w : World) (u1 : Ts w v1 A) (u2 : Is w v2 H) :
    Calls Try.prog 21 #[v1, v2, .int .i64 i] w fun e w' => e = .returned (.tuple #[.slice none 0 0, .int .i64 1]) ∧ Below w.heap.size w w' := by
  obtain ⟨a2, c2, rfl, _, _, _⟩ := u2.form
  have U1 := hidq u1
  have U2 := hidq u2
  have HFI := hidq hf
  have HR := hidq (hr_no (fun h' => h (M.two_ok.1 h')))
  clear u1 u2 h hf
  go_enter Try.func21, Try.ntmps21
  go_wp2_with (first | (go_at_call 25; refine (kcheck_any A [H, [i]] _ _ _ _ ((U1.out.alloc _).alloc _) (iss_two (w.alloc (.cells #[.int .i64 i] 3)) _ (by simp) _ _ _ H (U2.out.alloc _) _ _ _ [i] (is_oneq w _ rfl i HFI.out)) HR.out).mono ?_; rintro rr w1 ⟨rfl, hb1⟩; have B1 := hidq (below_trans (below_one (below_one (Below.refl _ _))) hb1); clear hb1))
  go_ret2
  exact ⟨rfl, B1.out⟩
set_option maxRecDepth 100000 in
set_option maxHeartbeats 4000000 in
theorem why_none {A : List M.Tm} {H : List Int} {i : Int} (hA : M.Ok A) (hH : M.okL A H) (hi : M.Pl A i) (hr : ¬ M.Kn A H i) {v1 v2 : Value} (w : World) (u1 : Ts w v1 A) (u2 : Is w v2 H) :
    Calls Try.prog 21 #[v1, v2, .int .i64 i] w fun e w' => e = .returned (.tuple #[.slice none 0 0, .int .i64 4]) ∧ Below w.heap.size w w' := by
  obtain ⟨n, hn⟩ : ∃ n, A.length = n := ⟨_, rfl⟩
  have hl := hA.1
  rw [hn] at hl
  obtain ⟨a2, c2, rfl, _, _, _⟩ := u2.form
  have hi1 := hi.1
  have hi2 := hi.2
  rw [hn] at hi2
  have HFI := hidq (show M.fitI i from ⟨by omega, by omega⟩)
  have U1 := hidq u1
  have U2 := hidq u2
  have HA := hidq hA
  have HH := hidq hH
  have HN := hidq hn
  have HR := hidq (hr_yes (M.two_ok.2 ⟨hA, hH, hi⟩))
  have HK := hidq hr
  clear u1 u2 hA hH hn hi hr
  go_enter Try.func21, Try.ntmps21
  go_upto_region 6 with (first | (go_at_call 25; refine (kcheck_any A [H, [i]] _ _ _ _ ((U1.out.alloc _).alloc _) (iss_two (w.alloc (.cells #[.int .i64 i] 3)) _ (by simp) _ _ _ H (U2.out.alloc _) _ _ _ [i] (is_oneq w _ rfl i HFI.out)) HR.out).mono ?_; rintro rr w1 ⟨rfl, hb1⟩; have B1 := hidq (below_trans (below_one (below_one (Below.refl _ _))) hb1); clear hb1) | (go_at_call 26; refine (mindOf_any n A H _ _ _ (U1.out.below B1.out) (U2.out.below B1.out) HN.out hl (M.okL.lt HH.out HN.out)).mono ?_; rintro rr w2 ⟨B, rfl, hm2, hb2⟩; have M2 := hidq hm2; have B2 := hidq hb2; clear hm2 hb2) | (go_at_call 27; refine (learnAll_any A HA.out H (fun i => w1.heap.size ≤ i) w1.heap.size B _ n _ _ HN.out M2.out (fun i hi => by have := B2.out.size; omega) B2.out.size (fun X hX => U1.out.below (below_trans B1.out (B2.out.trans (hX.below (fun _ h => h) B2.out.size)))) ((M.Chn.nil A H).lrn fun x hx => .inl hx) ((M.Gd.nil n).lrn (M.okL.lt HH.out HN.out)) (fun h hh => M.lrn_mem.2 (.inr hh))).mono ?_; rintro rr w3 ⟨rfl, D, hm3, hc3, hg3, hk3, ho3⟩; have M3 := hidq hm3; have C3 := hidq hc3; have G3 := hidq hg3; have K3 := hidq hk3; have B3 := hidq (below_trans B1.out (B2.out.trans (ho3.below (fun _ h => h) B2.out.size))); have S3 := hidq (show w1.heap.size ≤ w3.heap.size from Nat.le_trans B2.out.size ho3.size); clear hm3 hc3 hg3 hk3 ho3))
  (obtain ⟨g, vo, h1, h2, h3, _, _, _⟩ := M3.out; have q1 := h1.cell 1; have q2 := h1.cell 2; have hdl := G3.out.len)
  obtain ⟨p, rfl⟩ : ∃ p : Nat, i = p := ⟨i.toNat, by omega⟩
  have hpn : p < n := by omega
  have q3 := ownB_cell h2 hpn
  have e : decide ((p : Int) ∈ D) = false := decide_eq_false fun h => HK.out ((K3.out p).1 h)
  rw [e] at q3
  clear h1 h2 h3 q2 e
  go_wp2
  go_ret2
  exact ⟨rfl, B3.out⟩
end Go.Proofs.Ythkkclhjpgkhaaa
