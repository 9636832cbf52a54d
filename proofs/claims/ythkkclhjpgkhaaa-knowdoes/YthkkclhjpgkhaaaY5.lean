/-
  What learnAll comes to: all that is known, in a chain. Conditions: each theorem's own premises.
-/
import Derived.Test.YthkkclhjpgkhaaaY4
namespace Go.Proofs.Ythkkclhjpgkhaaa
open Go.RowKit
namespace M
/-- a chain all of whose first q have been looked at -/
def LI (A : List Tm) (H : List Int) (n q : Nat) (D : List Int) : Prop :=
  Chn A H D ∧ Gd n D ∧ (∀ h ∈ H, h ∈ D) ∧ (∀ j, Pl A j → Fol A (· ∈ D.take q) j → j ∈ D) ∧ q ≤ D.length
/-- .. and of those near the next one the first r -/
def LJ (A : List Tm) (H : List Int) (n q : Nat) (D N : List Int) (r : Nat) (D1 : List Int) : Prop :=
  Chn A H D1 ∧ Gd n D1 ∧ (∃ E, D1 = D ++ E) ∧ ∀ r', r' < r → ∀ k, N[r']? = some k → ∀ x ∈ tell A (D.take (q + 1)) k.toNat, x ∈ D1
theorem LI.start {A : List Tm} {H D : List Int} {n : Nat} (hc : Chn A H D) (hg : Gd n D) (hH : ∀ h ∈ H, h ∈ D) : LI A H n 0 D := by
  refine ⟨hc, hg, hH, fun j _ hf => ?_, Nat.zero_le _⟩
  rw [List.take_zero] at hf
  rcases hf with ⟨_, b⟩ | ⟨_, b, _⟩ | ⟨_, a, _⟩
  · cases b
  · cases b
  · cases a
theorem LI.done {A : List Tm} {H D : List Int} {n q : Nat} (hn : A.length = n) (h : LI A H n q D) (hq : q = D.length) (x : Int) : x ∈ D ↔ Kn A H x := by
  subst hq
  obtain ⟨h1, h2, h3, h4, _⟩ := h
  rw [List.take_length] at h4
  exact known_of (fun x hx => by have := h2.2 x hx; exact ⟨this.1, by omega⟩) h1 h3 h4 x
theorem LJ.start {A : List Tm} {H D N : List Int} {n q : Nat} (h : LI A H n q D) : LJ A H n q D N 0 D := ⟨h.1, h.2.1, ⟨[], by simp⟩, fun _ h => by omega⟩
theorem LJ.next {A : List Tm} (hA : Ok A) {H D N D1 : List Int} {n q r k : Nat} (hn : A.length = n) (h : LJ A H n q D N r D1) (hk : N[r]? = some (k : Int)) (hkn : k < n) : LJ A H n q D N (r + 1) (lrn D1 (tell A D1 k)) := by
  obtain ⟨h1, h2, ⟨E, h3⟩, h4⟩ := h
  have hf := fun x hx => tell_fol hA (D := D1) (k := k) (by omega) (x := x) hx
  obtain ⟨E', h5⟩ := lrn_more (tell A D1 k) D1
  refine ⟨h1.lrn fun x hx => .inr (hf x hx).1, h2.lrn fun x hx => by have := (hf x hx).2; exact ⟨this.1, by omega⟩, ⟨E ++ E', by rw [h5, h3, List.append_assoc]⟩, fun r' hr j hj x hx => ?_⟩
  rw [lrn_mem]
  rcases Nat.lt_or_ge r' r with h | h
  · exact .inl (h4 r' h j hj x hx)
  · obtain rfl : r' = r := by omega
    rw [hk] at hj
    cases hj
    exact .inr (tell_mono (fun y hy => by rw [h3]; exact List.mem_append_left _ (List.mem_of_mem_take hy)) hx)
theorem LI.next {A : List Tm} {H D N D1 : List Int} {n q r p : Nat} (hn : A.length = n) (h : LI A H n q D) (h' : LJ A H n q D N r D1) (hp : D[q]? = some (p : Int)) (hr : r = N.length) (hN : N = nrF A n p) : LI A H n (q + 1) D1 := by
  obtain ⟨_, g2, g3, g4, _⟩ := h
  obtain ⟨h1, h2, ⟨E, h3⟩, h4⟩ := h'
  obtain ⟨hq, e⟩ := List.getElem?_eq_some_iff.1 hp
  have ht : D1.take (q + 1) = D.take q ++ [(p : Int)] := by rw [h3, List.take_append_of_le_length (by omega), List.take_succ_eq_append_getElem hq, e]
  have ht' : D.take (q + 1) = D.take q ++ [(p : Int)] := by rw [List.take_succ_eq_append_getElem hq, e]
  have hpl : ∀ x ∈ D.take q ++ [(p : Int)], Pl A x := fun x hx => by
    rw [← ht'] at hx
    have := g2.2 x (List.mem_of_mem_take hx)
    exact ⟨this.1, by omega⟩
  refine ⟨h1, h2, fun x hx => by rw [h3]; exact List.mem_append_left _ (g3 x hx), fun j hj hf => ?_, by rw [h3, List.length_append]; omega⟩
  rw [ht] at hf
  rcases fol_near hpl hj hf with h | ⟨k, hk, hm, hx⟩
  · rw [h3]; exact List.mem_append_left _ (g4 j hj h)
  · have hk2 : (k : Int) ∈ N := by rw [hN]; exact nrF_mem A hm n (by omega)
    obtain ⟨r', hr', e'⟩ := List.getElem_of_mem hk2
    refine h4 r' (by omega) k (by rw [List.getElem?_eq_getElem hr', e']) j ?_
    rw [ht']
    exact hx
end M
theorem Nst.row {W : World} {base ga n : Nat} {F : Nat → List Int} (h : Nst W base ga n F) {p : Nat} (hp : p < n) : ∃ ao cap, W.cell? ⟨ga, p, none⟩ = some (.slice ao (F p).length cap) ∧ W.ownsRow base 3 1 (.slice ao (F p).length cap) (F p).length (elInt.cells (F p)) := by
  obtain ⟨x, h1, h2⟩ := h.at hp
  obtain ⟨ao, cap, e, _⟩ := own_formq h2
  rw [e] at h1 h2
  exact ⟨ao, cap, h1, h2⟩
/-- two times of memory between which nothing is the mind's -/
theorem Mind.gap {W W' : World} {T : Nat → Prop} {s B : Nat} {vt : Value} {n : Nat} {D : List Int} (h : Mind W T s B vt n D) (hb : Below W.heap.size W W') : Mind W' (fun i => T i ∧ (i < W.heap.size ∨ W'.heap.size ≤ i)) s B vt n D :=
  (h.mono (T' := fun i => T i ∧ (i < W.heap.size ∨ W'.heap.size ≤ i)) fun _ h1 h2 => ⟨h1, .inl h2⟩).below hb
theorem Is.of_ownq {W : World} {base : Nat} {v : Value} {L : List Int} {n : Nat} (h : W.ownsRow base 3 1 v L.length (elInt.cells L)) (hn : n ≤ 65536) (hL : ∀ x ∈ L, 0 ≤ x ∧ x < (n : Int)) : Is W v L := Sl.of_own (E := elInt) h fun x hx => by have := hL x hx; exact ⟨by omega, by omega⟩
set_option maxRecDepth 100000 in
set_option maxHeartbeats 4000000 in
theorem learnAll_any (A : List M.Tm) (hA : M.Ok A) (H : List Int) (T : Nat → Prop) (s B : Nat) (vt : Value) (n : Nat) (D0 : List Int) (w : World) (hn : A.length = n) (hM : Mind w T s B vt n D0) (hT : ∀ i, w.heap.size ≤ i → T i) (hs : s ≤ w.heap.size)
    (u : ∀ X, Outs T w X → Ts X vt A) (hc : M.Chn A H D0) (hg : M.Gd n D0) (hH : ∀ h ∈ H, h ∈ D0) :
    Calls Try.prog 27 #[.pointer (some ⟨B, 0, none⟩)] w fun e w' => e = .returned (.tuple #[]) ∧ ∃ D, Mind w' T s B vt n D ∧ M.Chn A H D ∧ M.Gd n D ∧ (∀ x, x ∈ D ↔ M.Kn A H x) ∧ Outs T w w' := by
  have hl := hA.1
  rw [hn] at hl
  have HA := hidq hA
  have HN := hidq hn
  have HM := hidq hM
  have HT := hidq hT
  have U := hidq u
  have HL0 := hidq (M.LI.start hc hg hH)
  have q0 : w.cell? ⟨B, 0, none⟩ = some vt := by obtain ⟨g, vo, h1, _⟩ := hM; exact h1.cell 0
  obtain ⟨at1, ct, evt, hp1, hp2, hp4⟩ := (u w (Outs.refl _ _)).form
  rw [hn] at evt
  clear hA hn hM hT u hc hg hH hp1 hp2 hp4
  have HE := hidq evt
  clear evt
  go_enter Try.func27, Try.ntmps27
  rw [HE.out] at q0
  go_wp2_with (first | (go_at_call 36; refine (near_any A HA.out n _ w (by rw [← HE.out]; exact U.out w (Outs.refl _ _)) HN.out).mono ?_; rintro rr w1 ⟨ga, rfl, hn1, hb1⟩; have N1 := hidq hn1; have B1 := hidq hb1; clear hn1 hb1))
  obtain ⟨T1, hT1⟩ : ∃ T1 : Nat → Prop, T1 = fun i => T i ∧ (i < w.heap.size ∨ w1.heap.size ≤ i) := ⟨_, rfl⟩
  have M1 : Hid (Mind w1 T1 s B vt n D0) := by rw [hT1]; exact HM.out.gap B1.out
  have HT1 : Hid (∀ i, w1.heap.size ≤ i → T1 i) := by rw [hT1]; exact fun i hi => ⟨HT.out i (by have := B1.out.size; omega), .inr hi⟩
  have HTT : Hid (∀ i, T1 i → T i) := by rw [hT1]; exact fun i h => h.1
  have HTN : Hid (∀ i, w.heap.size ≤ i → i < w1.heap.size → ¬ T1 i) := by rw [hT1]; exact fun i h1 h2 h => by have := h.2; omega
  have U1 : Hid (∀ X, Outs T1 w1 X → Ts X vt A) := fun X hX => U.out X ((Outs.of_below B1.out).trans (hX.mono HTT.out))
  clear hT1 HM
  go_loopw [3] (fun x wr => ∃ (q : Nat) (D : List Int), x = .int .i64 q ∧ Mind wr T1 s B vt n D ∧ M.LI A H n q D ∧ Outs T1 w1 wr) (fun x _ => n - (intOf x).toNat)
  case atStart => exact ⟨0, D0, rfl, M1.out, HL0.out, Outs.refl _ _⟩
  case round =>
    obtain ⟨q, D, rfl, hmd, hli, hou⟩ := hrel
    obtain ⟨g, vo, h1, h2, h3, tB, tg, tO⟩ := hmd
    have hgl := hli.2.1.len
    have hql := hli.2.2.2.2
    have q2 := h1.cell 2
    have q9 := h1.cell 0
    obtain ⟨ao, cap, rfl, hform⟩ := own_formq h3
    have HMD := hidq (show Mind wr T1 s B vt n D from ⟨g, _, h1, h2, h3, tB, tg, tO⟩)
    have HLI := hidq hli
    have HOU := hidq hou
    by_cases hq : q < D.length
    · obtain ⟨go_, rfl, _⟩ := hform (by omega)
      obtain ⟨x, hx⟩ : ∃ x, D[q]? = some x := ⟨_, List.getElem?_eq_getElem hq⟩
      have hxb := hli.2.1.2 x (List.mem_of_getElem? hx)
      obtain ⟨p, rfl⟩ : ∃ p : Nat, x = p := ⟨x.toNat, by omega⟩
      have hpn : p < n := by omega
      have hpi : (p : Int) < n := by omega
      have q3 := own_cellq h3 hq hx
      have HX := hidq hx
      obtain ⟨ar, cr, q4, or_⟩ := N1.out.row hpn
      have HNR := hidq (fun (X : World) (hX : Outs T1 w1 X) => Is.of_ownq (own_outs or_ hX fun k hk => by have := or_.lt k hk; exact HTN.out k this.1 this.2) hl (M.nrF_lt A n p))
      have q5 : wr.cell? ⟨ga, p, none⟩ = _ := (World.cell?_of_block (hou.block ga N1.out.block.2 (HTN.out ga N1.out.block.1 N1.out.block.2))).trans q4
      have hNL := M.nrF_len A n p
      obtain ⟨N, hN⟩ : ∃ N, M.nrF A n p = N := ⟨_, rfl⟩
      rw [hN] at HNR q5 hNL
      have HNE := hidq hN
      obtain ⟨_, _, efm, fm1, fm2, fm4⟩ := (HNR.out _ (Outs.refl _ _)).form
      simp only [Value.slice.injEq] at efm
      obtain ⟨rfl, _, rfl⟩ := efm
      have FM4 := hidq fm4
      clear hli hou h1 h2 h3 tB tg tO hx hxb hform or_ q4 hN fm4
      generalize hdl : D.length = dl at *
      have HDL := hidq hdl
      clear hdl
      generalize hnl : N.length = nl at *
      have HNL := hidq hnl
      clear hnl
      have hqi : (q : Int) < dl := by omega
      go_wp2
      obtain ⟨wo, rfl⟩ : ∃ wo : World, wo = wr := ⟨_, rfl⟩
      go_loopw [31] (fun x wr => ∃ (r : Nat) (D1 : List Int), x = .int .i64 r ∧ r ≤ nl ∧ Mind wr T1 s B vt n D1 ∧ M.LJ A H n q D N r D1 ∧ Outs T1 w1 wr) (fun x _ => nl - (intOf x).toNat)
      case atStart => exact ⟨0, D, rfl, by omega, HMD.out, M.LJ.start HLI.out, HOU.out⟩
      case round =>
        obtain ⟨r, D1, rfl, hr, hmr, hlj, hor⟩ := hrel
        have HMR := hidq hmr
        have HLJ := hidq hlj
        have HOR := hidq hor
        by_cases hlt : r < nl
        · obtain ⟨bn, on, rfl⟩ := FM4.out (by omega)
          obtain ⟨x, hx⟩ : ∃ x, N[r]? = some x := ⟨_, List.getElem?_eq_getElem (by rw [HNL.out]; exact hlt)⟩
          have c1 := Is.cellq (HNR.out _ hor) hx
          have hxb := M.nrF_lt A n p x (by rw [HNE.out]; exact List.mem_of_getElem? hx)
          obtain ⟨kk, rfl⟩ : ∃ kk : Nat, x = kk := ⟨x.toNat, by omega⟩
          have hkk : kk < n := by omega
          have HJN := hidq (HLJ.out.next HA.out HN.out hx hkk)
          clear hx hxb hmr hlj hor
          go_wp2_with (first | (go_at_call 34; refine (tells_any A HA.out T1 s B vt n D1 kk _ HMR.out (U1.out _ HOR.out) HN.out hkk).mono ?_; rintro rr w3 ⟨v3, rfl, ho3, hb3⟩; have O3 := hidq ho3; have B3 := hidq hb3; have M3 := hidq (HMR.out.gap hb3); clear ho3 hb3) | (go_at_call 39; refine (learn_any (fun i => T1 i ∧ (i < wr.heap.size ∨ w3.heap.size ≤ i)) s B vt n D1 (M.tell A D1 kk) _ _ M3.out (fun i hi => ⟨HT1.out i (by have := B3.out.size; have := HOR.out.size; omega), .inr hi⟩) (by have := B3.out.size; have := HOR.out.size; have := B1.out.size; omega) hl (HLJ.out.2.1) (fun x hx => by have := (M.tell_fol HA.out (by rw [HN.out]; exact hkk) hx).2; have e := HN.out; exact ⟨this.1, by omega⟩) (fun X hX => Is.of_ownq (own_outs O3.out hX fun k hk => by have := O3.out.lt k hk; omega) hl (fun x hx => by have := (M.tell_fol HA.out (by rw [HN.out]; exact hkk) hx).2; have e := HN.out; exact ⟨this.1, by omega⟩))).mono ?_; rintro rr w4 ⟨rfl, hm4, ho4⟩; have M4 := hidq (hm4.mono (T' := T1) fun _ h _ => h.1); have O4 := hidq (HOR.out.trans ((Outs.of_below B3.out).trans (ho4.mono fun _ h => h.1))); clear hm4 ho4))
          go_roundw
          case rel => exact ⟨r + 1, _, by go_num, by omega, M4.out, HJN.out, O4.out⟩
          case measure => simp [intOf]; omega
        · obtain rfl : r = nl := by omega
          clear hmr hlj hor
          go_wp2
          go_roundw
          case rel => exact ⟨q + 1, D1, by go_num, HMR.out, HLI.out.next HN.out HLJ.out HX.out HNL.out.symm HNE.out.symm, HOR.out⟩
          case measure => simp [intOf]; omega
    · have hqe : q = D.length := by omega
      have HK := hidq (HLI.out.done HN.out hqe)
      clear hli hou h1 h2 h3 tB tg tO hform
      subst hqe
      generalize D.length = dl at *
      go_wp2
      go_end0
      exact ⟨rfl, D, HMD.out.mono fun i h _ => HTT.out i h, HLI.out.1, HLI.out.2.1, HK.out, (Outs.of_below B1.out).trans (HOU.out.mono HTT.out)⟩
end Go.Proofs.Ythkkclhjpgkhaaa
