/-
  The library's sort, Index and Contains over places; places in rows of rows; what the program's All and Knows come to. Conditions: each theorem's own premises.
-/
import Derived.Test.YthkkclhjpgkhaaaY6
import Derived.Test.YthkkclhjpgkhaaaShelf
import Derived.Sort.OwnSortedInts
namespace Go.Proofs.Ythkkclhjpgkhaaa
open Go.RowKit
theorem sort_own (D : List Int) (base : Nat) (v : Value) (w : World) (ho : w.ownsRow base 3 1 v D.length (elInt.cells D)) (hd : D.length ≤ 65536) :
    Calls Try.prog 28 #[v] w fun e w' => e = .returned (.tuple #[]) ∧ w'.ownsRow base 3 1 v D.length (elInt.cells (D.mergeSort fun x y => decide (x ≤ y))) ∧ w.grownBy w' v.ownBlock := by
  rcases ho.2 with ⟨rfl, h0⟩ | ⟨g, cap, cur, rfl, hb, hg, hn, hc, hs, htk⟩
  · obtain rfl : D = [] := List.eq_nil_of_length_eq_zero h0
    refine (Try.slices_Sort_int_none none 0 w).mono fun e w' h => ⟨h.1, ?_, ?_⟩
    · rw [h.2]; simpa using ho
    · rw [h.2]; exact ⟨rfl, rfl, rfl, Nat.le_refl _, fun _ _ _ => rfl⟩
  · have htk' : cur.toList.take D.length = D.map (Value.int .i64) := by rw [← elInt_cells, ← htk, Nat.mul_one]
    refine (Try.slices_Sort_int g 0 cap D w (holds_of_blockI hg htk') (Array.getElem?_eq_some_iff.1 hg).1 (by omega)).mono fun e w' h => ?_
    obtain ⟨he, m, os, rfl⟩ := h
    refine ⟨he, ?_, grownBy_sortedI _⟩
    rw [elInt_cells]
    exact ownsRow_sortedI (by simp) hb hg hn hc hs
theorem Is.celld {W : World} {b off n cap : Nat} {L : List Int} (h : Is W (.slice (some ⟨b, off, none⟩) n cap) L) : ∀ j, j < L.length → W.cell? ⟨b, off + j, none⟩ = some (.int .i64 (L.getD j 0)) := fun j hj => by
  rw [Is.cellq h (List.getElem?_eq_getElem hj), List.getD_eq_getElem?_getD, List.getElem?_eq_getElem hj]
  rfl
theorem contains_any (L : List Int) (x : Int) (v : Value) (w : World) (u : Is w v L) (hl : L.length ≤ 1000000) (r : Bool) (hr : decide (x ∈ L) = r) :
    Calls Try.prog 38 #[v, .int .i64 x] w fun e w' => e = .returned (.bool r) ∧ w' = w := by
  have hr' : L.contains x = r := by rw [← hr]; simp [List.contains_eq_mem]
  obtain ⟨ao, cap, rfl, h1, h2, h4⟩ := u.form
  by_cases h0 : 0 < cap
  · obtain ⟨b, off, rfl⟩ := h4 h0
    have := Try.slices_Contains_int b off L.length cap L x w (Nat.le_refl _) (by omega) u.celld
    rw [List.take_length, hr'] at this
    exact this
  · obtain rfl : L = [] := List.eq_nil_of_length_eq_zero (by omega)
    have := Try.slices_Contains_int_empty ao cap x w
    rw [show r = false by rw [← hr']; rfl]
    exact this
theorem index_any (L : List Int) (x : Int) (v : Value) (w : World) (u : Is w v L) (hl : L.length ≤ 1000000) (r : Int) (hr : Lib.idxOf L x = r) :
    Calls Try.prog 40 #[v, .int .i64 x] w fun e w' => e = .returned (.int .i64 r) ∧ w' = w := by
  subst hr
  obtain ⟨ao, cap, rfl, h1, h2, h4⟩ := u.form
  by_cases h0 : 0 < cap
  · obtain ⟨b, off, rfl⟩ := h4 h0
    have := Try.slices_Index_int b off L.length cap L x w (Nat.le_refl _) (by omega) u.celld
    rw [List.take_length] at this
    exact this
  · obtain rfl : L = [] := List.eq_nil_of_length_eq_zero (by omega)
    exact Try.slices_Index_int_empty ao cap x w
/-- one list of places, and two, as they are handed over -/
theorem iss_one (W : World) (g : Nat) (hg : g = W.heap.size) (ao : Option Addr) (n c : Nat) (L : List Int) (u : Is W (.slice ao n c) L) : Iss (W.alloc (.cells #[.slice ao n c] 23)) (.slice (some ⟨g, 0, none⟩) 1 1) [L] := by
  subst hg
  refine ⟨[(ao, n, c)], ⟨_, 1, rfl, by simp, by simp [maxLen], by simp [elSl], fun _ => ⟨W.heap.size, 0, rfl, by simp, fun j hj => ?_⟩⟩, rfl, fun j x L' hx hL => ?_⟩
  · have : j = 0 := by simp [elSl] at hj; exact hj
    subst this
    rw [(Bxs.new W #[.slice ao n c] 23).cell]; rfl
  · match j, hx, hL with
    | 0, hx, hL => cases hx; cases hL; exact u.alloc _
theorem iss_two (W : World) (g : Nat) (hg : g = W.heap.size) (ao : Option Addr) (n c : Nat) (L : List Int) (u : Is W (.slice ao n c) L) (ao' : Option Addr) (n' c' : Nat) (L' : List Int) (u' : Is W (.slice ao' n' c') L') : Iss (W.alloc (.cells #[.slice ao n c, .slice ao' n' c'] 23)) (.slice (some ⟨g, 0, none⟩) 2 2) [L, L'] := by
  subst hg
  refine ⟨[(ao, n, c), (ao', n', c')], ⟨_, 2, rfl, by simp, by simp [maxLen], by simp [elSl], fun _ => ⟨W.heap.size, 0, rfl, by simp, fun j hj => ?_⟩⟩, rfl, fun j x L1 hx hL => ?_⟩
  · have hj2 : j < 2 := by simpa [elSl] using hj
    rw [Nat.zero_add, (Bxs.new W #[.slice ao n c, .slice ao' n' c'] 23).cell]
    match j, hj2 with
    | 0, _ => rfl
    | 1, _ => rfl
  · match j, hx, hL with
    | 0, hx, hL => cases hx; cases hL; exact u.alloc _
    | 1, hx, hL => cases hx; cases hL; exact u'.alloc _
theorem hr_yes {A : List M.Tm} {Ls : List (List Int)} (h : M.Ok A ∧ ∀ L ∈ Ls, M.okL A L) : ((0 : Int) = 0 ↔ M.Ok A ∧ ∀ L ∈ Ls, M.okL A L) ∧ ((0 : Int) = 0 ∨ (0 : Int) = 1) := ⟨⟨fun _ => h, fun _ => rfl⟩, .inl rfl⟩
theorem hr_no {A : List M.Tm} {Ls : List (List Int)} (h : ¬ (M.Ok A ∧ ∀ L ∈ Ls, M.okL A L)) : ((1 : Int) = 0 ↔ M.Ok A ∧ ∀ L ∈ Ls, M.okL A L) ∧ ((1 : Int) = 0 ∨ (1 : Int) = 1) := ⟨⟨fun h => by omega, fun h' => absurd h' h⟩, .inr rfl⟩
theorem M.okL.lt {A : List M.Tm} {L : List Int} {n : Nat} (h : M.okL A L) (hn : A.length = n) : ∀ x ∈ L, 0 ≤ x ∧ x < (n : Int) := fun x hx => by have := h.2 x hx; exact ⟨this.1, by have := this.2; omega⟩
set_option maxRecDepth 100000 in
set_option maxHeartbeats 4000000 in
theorem all_ok {A : List M.Tm} {H : List Int} (hA : M.Ok A) (hH : M.okL A H) {f : Nat → Bool} (hf : ∀ j : Nat, f j = true ↔ M.Kn A H j) {v1 v2 : Value} (w : World) (u1 : Ts w v1 A) (u2 : Is w v2 H) :
    Calls Try.prog 12 #[v1, v2] w fun e w' => ∃ v', e = .returned (.tuple #[v', .int .i64 0]) ∧ w'.ownsRow w.heap.size 3 1 v' (M.outL f A.length).length (elInt.cells (M.outL f A.length)) ∧ Below w.heap.size w w' := by
  obtain ⟨n, hn⟩ : ∃ n, A.length = n := ⟨_, rfl⟩
  have hl := hA.1
  have HF := hidq (M.mem_outL hH.2 hf)
  rw [hn] at hl HF ⊢
  obtain ⟨a2, c2, rfl, _, _, _⟩ := u2.form
  have U1 := hidq u1
  have U2 := hidq u2
  have HA := hidq hA
  have HH := hidq hH
  have HN := hidq hn
  have HR := hidq (hr_yes (A := A) (Ls := [H]) ⟨hA, by simpa using hH⟩)
  clear u1 u2 hA hH hn hf
  go_enter Try.func12, Try.ntmps12
  go_upto_region 6 with (first | (go_at_call 25; refine (kcheck_any A [H] _ _ _ _ (U1.out.alloc _) (iss_one w _ (by simp) _ _ _ H U2.out) HR.out).mono ?_; rintro rr w1 ⟨rfl, hb1⟩; have B1 := hidq (below_trans (below_one (Below.refl _ _)) hb1); clear hb1) | (go_at_call 26; refine (mindOf_any n A H _ _ _ (U1.out.below B1.out) (U2.out.below B1.out) HN.out hl (M.okL.lt HH.out HN.out)).mono ?_; rintro rr w2 ⟨B, rfl, hm2, hb2⟩; have M2 := hidq hm2; have B2 := hidq hb2; clear hm2 hb2) | (go_at_call 27; refine (learnAll_any A HA.out H (fun i => w1.heap.size ≤ i) w1.heap.size B _ n _ _ HN.out M2.out (fun i hi => by have := B2.out.size; omega) B2.out.size (fun X hX => U1.out.below (below_trans B1.out (B2.out.trans (hX.below (fun _ h => h) B2.out.size)))) ((M.Chn.nil A H).lrn fun x hx => .inl hx) ((M.Gd.nil n).lrn (M.okL.lt HH.out HN.out)) (fun h hh => M.lrn_mem.2 (.inr hh))).mono ?_; rintro rr w3 ⟨rfl, D, hm3, hc3, hg3, hk3, ho3⟩; have M3 := hidq hm3; have C3 := hidq hc3; have G3 := hidq hg3; have K3 := hidq hk3; have B3 := hidq (below_trans B1.out (B2.out.trans (ho3.below (fun _ h => h) B2.out.size))); have S3 := hidq (show w1.heap.size ≤ w3.heap.size from Nat.le_trans B2.out.size ho3.size); clear hm3 hc3 hg3 hk3 ho3))
  (obtain ⟨g, vo, h1, h2, h3, _, _, _⟩ := M3.out; have q1 := h1.cell 1; have q2 := h1.cell 2; have hdl := G3.out.len)
  obtain ⟨ao, cap, rfl, hfm⟩ := own_formq h3
  have SO := hidq (sort_own D w1.heap.size _ w3 h3 (by omega))
  have H1 := hidq h1
  have HAP := hidq (h1.apart h3 (by decide))
  have H3 := hidq h3
  clear h1 h2 h3 hfm q1
  go_wp2_with (first | (go_at_call 28; refine SO.out.mono ?_; rintro rr w4 ⟨rfl, ho4, hg4⟩; have q5 := (H1.out.grown hg4 (fun e => HAP.out e.symm)).cell 2; have B4 := hidq (B3.out.grown hg4 B3.out.size (fun q hq => Nat.le_trans B1.out.size (H3.out.lt q hq).1)); have O4 := hidq ho4; clear ho4 hg4))
  go_ret2
  have e := M.sort_out G3.out.1 (f := f) (n := n) fun x => (K3.out x).trans (HF.out x).symm
  have hO := O4.out
  have hlen : D.length = (M.outL f n).length := by rw [← e, List.length_mergeSort]
  rw [e] at hO
  exact ⟨_, rfl, by rw [← hlen]; exact own_lowq hO B1.out.size, B4.out⟩
set_option maxRecDepth 100000 in
theorem all_no {A : List M.Tm} {H : List Int} (h : ¬ (M.Ok A ∧ M.okL A H)) {v1 v2 : Value} (w : World) (u1 : Ts w v1 A) (u2 : Is w v2 H) :
    Calls Try.prog 12 #[v1, v2] w fun e w' => e = .returned (.tuple #[.slice none 0 0, .int .i64 1]) ∧ Below w.heap.size w w' := by
  obtain ⟨a2, c2, rfl, _, _, _⟩ := u2.form
  have U1 := hidq u1
  have U2 := hidq u2
  have HR := hidq (hr_no (A := A) (Ls := [H]) (by simpa using h))
  clear u1 u2 h
  go_enter Try.func12, Try.ntmps12
  go_wp2_with (first | (go_at_call 25; refine (kcheck_any A [H] _ _ _ _ (U1.out.alloc _) (iss_one w _ (by simp) _ _ _ H U2.out) HR.out).mono ?_; rintro rr w1 ⟨rfl, hb1⟩; have B1 := hidq (below_trans (below_one (Below.refl _ _)) hb1); clear hb1))
  go_ret2
  exact ⟨rfl, B1.out⟩
end Go.Proofs.Ythkkclhjpgkhaaa
