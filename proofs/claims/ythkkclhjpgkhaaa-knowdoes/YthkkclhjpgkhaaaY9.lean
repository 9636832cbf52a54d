/-
  What the program's Why comes to where it answers a chain. Conditions: each theorem's own premises.
-/
import Derived.Test.YthkkclhjpgkhaaaY8
namespace Go.Proofs.Ythkkclhjpgkhaaa
open Go.RowKit
/-- a chain whose last one is i, in memory -/
def WhyC (A : List M.Tm) (H : List Int) (i : Int) (W : World) (v : Value) : Prop := ∃ c, Is W v c ∧ M.Chn A H c ∧ M.okL A c ∧ ∃ k, c.length = k + 1 ∧ c[k]? = some i
theorem firstq {i : Int} : ∀ {D : List Int}, i ∈ D → ∃ k : Nat, D[k]? = some i ∧ ∀ j, j < k → D[j]? ≠ some i
  | x :: D, h => by
    by_cases e : x = i
    · exact ⟨0, by simp [e], fun j hj => by omega⟩
    · obtain ⟨k, h1, h2⟩ := firstq (D := D) (by
        rcases List.mem_cons.1 h with h | h
        · exact absurd h.symm e
        · exact h)
      refine ⟨k + 1, by simpa using h1, fun j hj => ?_⟩
      cases j with
      | zero => simpa using e
      | succ j => simpa using h2 j (by omega)
theorem idxq {D : List Int} {i : Int} (h : i ∈ D) : ∃ k : Nat, k < D.length ∧ Lib.idxOf D i = k ∧ D[k]? = some i := by
  obtain ⟨k, h1, h2⟩ := firstq h
  obtain ⟨hk, e⟩ := List.getElem?_eq_some_iff.1 h1
  refine ⟨k, hk, ?_, h1⟩
  have := Lib.idxOf_hit D D.length k i hk (Nat.le_refl _) (by rw [List.getD_eq_getElem?_getD, h1]; rfl) (fun j hj e' => h2 j hj (by
    rw [List.getD_eq_getElem?_getD, List.getElem?_eq_getElem (by omega)] at e'
    rw [List.getElem?_eq_getElem (by omega)]
    exact congrArg some e'))
  rw [List.take_length] at this
  exact this
set_option maxRecDepth 100000 in
set_option maxHeartbeats 1000000 in
theorem why_ok {A : List M.Tm} {H : List Int} {i : Int} (hA : M.Ok A) (hH : M.okL A H) (hi : M.Pl A i) (hr : M.Kn A H i) {v1 v2 : Value} (w : World) (u1 : Ts w v1 A) (u2 : Is w v2 H) :
    Calls Try.prog 21 #[v1, v2, .int .i64 i] w fun e w' => ∃ v', e = .returned (.tuple #[v', .int .i64 0]) ∧ WhyC A H i w' v' ∧ Below w.heap.size w w' := by
  obtain ⟨n, hn⟩ : ∃ n, A.length = n := ⟨_, rfl⟩
  have hl := hA.1
  rw [hn] at hl
  obtain ⟨a2, c2, rfl, _, _, _⟩ := u2.form
  have hi1 := hi.1
  have hi2 := hi.2
  rw [hn] at hi2
  have HFI := hidq (show M.fitI i from ⟨by omega, by omega⟩)
  have U1 := hidq u1
  have U2 := hidq u2
  have HA := hidq hA
  have HH := hidq hH
  have HN := hidq hn
  have HR := hidq (hr_yes (M.two_ok.2 ⟨hA, hH, hi⟩))
  have HK := hidq hr
  clear u1 u2 hA hH hn hi hr
  go_enter Try.func21, Try.ntmps21
  go_upto_region 6 with (first | (go_at_call 25; refine (kcheck_any A [H, [i]] _ _ _ _ ((U1.out.alloc _).alloc _) (iss_two (w.alloc (.cells #[.int .i64 i] 3)) _ (by simp) _ _ _ H (U2.out.alloc _) _ _ _ [i] (is_oneq w _ rfl i HFI.out)) HR.out).mono ?_; rintro rr w1 ⟨rfl, hb1⟩; have B1 := hidq (below_trans (below_one (below_one (Below.refl _ _))) hb1); clear hb1) | (go_at_call 26; refine (mindOf_any n A H _ _ _ (U1.out.below B1.out) (U2.out.below B1.out) HN.out hl (M.okL.lt HH.out HN.out)).mono ?_; rintro rr w2 ⟨B, rfl, hm2, hb2⟩; have M2 := hidq hm2; have B2 := hidq hb2; clear hm2 hb2) | (go_at_call 27; refine (learnAll_any A HA.out H (fun i => w1.heap.size ≤ i) w1.heap.size B _ n _ _ HN.out M2.out (fun i hi => by have := B2.out.size; omega) B2.out.size (fun X hX => U1.out.below (below_trans B1.out (B2.out.trans (hX.below (fun _ h => h) B2.out.size)))) ((M.Chn.nil A H).lrn fun x hx => .inl hx) ((M.Gd.nil n).lrn (M.okL.lt HH.out HN.out)) (fun h hh => M.lrn_mem.2 (.inr hh))).mono ?_; rintro rr w3 ⟨rfl, D, hm3, hc3, hg3, hk3, ho3⟩; have M3 := hidq hm3; have C3 := hidq hc3; have G3 := hidq hg3; have K3 := hidq hk3; have B3 := hidq (below_trans B1.out (B2.out.trans (ho3.below (fun _ h => h) B2.out.size))); have S3 := hidq (show w1.heap.size ≤ w3.heap.size from Nat.le_trans B2.out.size ho3.size); clear hm3 hc3 hg3 hk3 ho3))
  (obtain ⟨g, vo, h1, h2, h3, _, _, _⟩ := M3.out; have q1 := h1.cell 1; have q2 := h1.cell 2; have hdl := G3.out.len)
  obtain ⟨p, rfl⟩ : ∃ p : Nat, i = p := ⟨i.toNat, by omega⟩
  have hpn : p < n := by omega
  have q3 := ownB_cell h2 hpn
  have hpD : (p : Int) ∈ D := (K3.out p).2 HK.out
  rw [decide_eq_true hpD] at q3
  obtain ⟨k, hk, hix, hdk⟩ := idxq hpD
  obtain ⟨ao, cap, rfl, hfm⟩ := own_formq h3
  obtain ⟨go_, rfl, _⟩ := hfm (by omega)
  have hI : Is w3 (.slice (some ⟨go_, 0, none⟩) D.length cap) D := Is.of_ownq h3 hl (fun x hx => G3.out.2 x hx)
  obtain ⟨_, _, efm, fm1, fm2, _⟩ := hI.form
  simp only [Value.slice.injEq] at efm
  obtain ⟨rfl, _, rfl⟩ := efm
  have IX := hidq (fun m => index_any D p _ (w3.drewN m) (hI.below (below_dq (Below.refl _ _) m)) (by omega) k hix)
  have HI := hidq hI
  have HDK := hidq hdk
  have hcap : ¬ cap = 0 := by omega
  have hkl : (k : Int) + 1 ≤ D.length := by omega
  have hkc : (k : Int) + 1 ≤ cap := by omega
  have hkm : k + 1 ≤ cap := by omega
  have k0 : (0 : Int) ≤ (k : Int) + 1 := by omega
  have hwr := wrap64 (x := (k : Int) + 1) (by omega) (by omega)
  have ktn : ((k : Int) + 1).toNat = k + 1 := by omega
  clear h1 h2 h3 hfm hpD hI hix hdk
  generalize hdl2 : D.length = dl at *
  have HDL := hidq hdl2
  clear hdl2
  go_upto_region 8 with (fail)
  go_quiet ((go_at_call 40; exact Calls.quiet_of_same (IX.out _)))
  go_wp2
  go_ret2
  refine ⟨_, rfl, ⟨D.take (k + 1), ?_, C3.out.take _, ⟨by rw [List.length_take]; have := HDL.out; omega, fun x hx => ?_⟩, ⟨k, by rw [List.length_take, HDL.out]; omega, by rw [List.getElem?_take, if_pos (by omega)]; exact HDK.out⟩⟩, below_dq B3.out _⟩
  · have := Sl.part HI.out 0 (k + 1) cap (by omega) (by omega) (by omega) (by omega) (by omega)
    rw [List.drop_zero, Nat.sub_zero, Nat.zero_mul] at this
    exact this.below (below_dq (Below.refl _ _) _)
  · have := G3.out.2 x (List.mem_of_mem_take hx)
    exact ⟨this.1, by rw [HN.out]; exact this.2⟩
end Go.Proofs.Ythkkclhjpgkhaaa
