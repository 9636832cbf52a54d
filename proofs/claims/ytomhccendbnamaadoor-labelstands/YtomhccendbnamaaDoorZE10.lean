/-
  What the program's usesSealed comes to; the closures of Eval, and slices.ContainsFunc with each; comesOf. Conditions: each theorem's own premises.
-/
import Derived.Test.YtomhccendbnamaaDoorZE1
import Derived.Test.YtomhccendbnamaaDoorZNX
import Derived.Test.YtomhccendbnamaaDoorZQV
import Derived.Test.YtomhccendbnamaaDoorZU12
import Derived.Deep.RegionHeld3
namespace Go.Proofs.YtomhccendbnamaaDoor
open Go.RowKit
theorem Is.cellv {W : World} {b off n cap : Nat} {L : List Int} (h : Is W (.slice (some ⟨b, off, none⟩) n cap) L) {k : Nat} {x : Int} (hk : L[k]? = some x) : W.cell? ⟨b, off + k, none⟩ = some (.int .i64 x) := by
  have := Sl.at h hk (i := 0) (by decide)
  simpa [elInt] using this
theorem any_take_nextq {p : Int → Bool} {L : List Int} {k : Nat} {x : Int} (h : L[k]? = some x) (h0 : (L.take k).any p = false) (hx : p x = false) : (L.take (k + 1)).any p = false := by
  obtain ⟨hk, e⟩ := List.getElem?_eq_some_iff.1 h
  rw [List.take_succ_eq_append_getElem hk, List.any_append, h0, e]
  simp [hx]
set_option maxRecDepth 100000 in
set_option maxHeartbeats 4000000 in
theorem usesSealed_eq {A : List M.Tm} {t : M.Tm} {r : Bool} (h : M.usesS A t = r) (hk : t.1 = 1 ∨ (t.1 = 2 ∨ t.1 = 3 ∨ t.1 = 4) ∨ t.1 = 5) (hp : ∀ p ∈ M.parts t, 0 ≤ p ∧ p < (A.length : Int)) {vl : Value} (w : World) (u : Ts w vl A) :
    Calls Tryd.prog 29 #[vl, (.agg #[.int .i64 t.1, .int .i64 t.2.1, .int .i64 t.2.2])] w fun e w' => e = .returned (.bool r) ∧ Below w.heap.size w w' := by
  obtain ⟨tk, ta, tb⟩ := t
  dsimp only at hk ⊢
  have T1 := hidq trivial
  have T2 := hidq trivial
  rcases hk with h1 | h1 | h1
  · subst h1
    obtain rfl : false = r := by rw [← h]; unfold M.usesS M.parts; rw [if_neg (by dsimp only; decide), if_neg (by dsimp only; decide)]; rfl
    clear h hp u
    go_enter Tryd.func29, Tryd.ntmps29
    go_wp2
    go_ret
    exact ⟨rfl, below_one (Below.refl _ _)⟩
  · have hpp : M.parts (tk, ta, tb) = [ta] := by unfold M.parts; rw [if_pos h1]
    obtain ⟨p0, p1⟩ := hp ta (by rw [hpp]; simp)
    obtain ⟨a, ha⟩ : ∃ a, M.ofT ta = a := ⟨_, rfl⟩
    have hs : M.sld A a = r := by
      rw [← h, ← ha]; unfold M.usesS M.sld M.ofT; rw [hpp]; simp
    have hr : a.1 = true → 0 ≤ a.2.2.2.2 ∧ a.2.2.2.2 < (A.length : Int) := fun _ => by rw [← ha]; exact ⟨p0, p1⟩
    have HA := hidq ha
    have SA := hidq (fun W (u : Ts W vl A) => isSealed_eq hs hr W u)
    have n1 : ¬ tk = 1 := by omega
    have n5 : ¬ tk = 5 := by omega
    clear h hp hpp ha hs hr h1
    have B0 := hidq (below_one (o := .cells #[.int .i64 tk, .int .i64 ta, .int .i64 tb] 43) (Below.refl w.heap.size w))
    have X0 := hidq (Bx3.new w (tk, ta, tb))
    have U0 := hidq (u.alloc (.cells #[.int .i64 tk, .int .i64 ta, .int .i64 tb] 43))
    clear u
    dsimp only at X0
    go_enter Tryd.func29, Tryd.ntmps29
    go_wp2_with (first | (go_at_call 53; clear T1; refine (ofTerm_eq HA.out _).mono ?_; rintro e w1 ⟨rfl, hb1⟩; have U1 := hidq (U0.out.below hb1); have X1 := hidq (X0.out.below hb1); have c1 := X1.out.cells; have B1 := hidq (below_trans B0.out hb1); clear hb1) | (go_at_call 52; clear T2; refine (SA.out _ U1.out).mono ?_; rintro e w2 ⟨rfl, hb2⟩; have U2 := hidq (U1.out.below hb2); have X2 := hidq (X1.out.below hb2); have c2 := X2.out.cells; have B2 := hidq (below_trans B1.out hb2); clear hb2))
    go_ret
    exact ⟨rfl, B2.out⟩
  · subst h1
    have hpp : M.parts (5, ta, tb) = [ta, tb] := by unfold M.parts; rw [if_neg (by dsimp only; decide), if_pos rfl]
    obtain ⟨p0, p1⟩ := hp ta (by rw [hpp]; simp)
    obtain ⟨q0, q1⟩ := hp tb (by rw [hpp]; simp)
    obtain ⟨a, ha⟩ : ∃ a, M.ofT ta = a := ⟨_, rfl⟩
    obtain ⟨b, hb⟩ : ∃ b, M.ofT tb = b := ⟨_, rfl⟩
    obtain ⟨r1, hs1⟩ : ∃ r1, M.sld A a = r1 := ⟨_, rfl⟩
    obtain ⟨r2, hs2⟩ : ∃ r2, M.sld A b = r2 := ⟨_, rfl⟩
    have hr : (r1 || r2) = r := by
      rw [← h, ← hs1, ← hs2, ← ha, ← hb]; unfold M.usesS M.sld M.ofT; rw [hpp]; simp
    have ra : a.1 = true → 0 ≤ a.2.2.2.2 ∧ a.2.2.2.2 < (A.length : Int) := fun _ => by rw [← ha]; exact ⟨p0, p1⟩
    have rb : b.1 = true → 0 ≤ b.2.2.2.2 ∧ b.2.2.2.2 < (A.length : Int) := fun _ => by rw [← hb]; exact ⟨q0, q1⟩
    have HA := hidq ha
    have HB := hidq hb
    have SA := hidq (fun W (u : Ts W vl A) => isSealed_eq hs1 ra W u)
    have SB := hidq (fun W (u : Ts W vl A) => isSealed_eq hs2 rb W u)
    clear h hp hpp ha hb hs1 hs2 ra rb p0 p1 q0 q1
    have B0 := hidq (below_one (o := .cells #[.int .i64 5, .int .i64 ta, .int .i64 tb] 43) (Below.refl w.heap.size w))
    have X0 := hidq (Bx3.new w (5, ta, tb))
    have U0 := hidq (u.alloc (.cells #[.int .i64 5, .int .i64 ta, .int .i64 tb] 43))
    clear u
    dsimp only at X0
    cases r1 with
    | true =>
      obtain rfl : true = r := by simpa using hr
      clear hr
      go_enter Tryd.func29, Tryd.ntmps29
      go_wp2_with (first | (go_at_call 53; clear T1; refine (ofTerm_eq HA.out _).mono ?_; rintro e w1 ⟨rfl, hb1⟩; have U1 := hidq (U0.out.below hb1); have X1 := hidq (X0.out.below hb1); have c1 := X1.out.cells; have B1 := hidq (below_trans B0.out hb1); clear hb1) | (go_at_call 52; clear T2; refine (SA.out _ U1.out).mono ?_; rintro e w2 ⟨rfl, hb2⟩; have U2 := hidq (U1.out.below hb2); have X2 := hidq (X1.out.below hb2); have c2 := X2.out.cells; have B2 := hidq (below_trans B1.out hb2); clear hb2))
      go_ret
      exact ⟨rfl, B2.out⟩
    | false =>
      obtain rfl : r2 = r := by simpa using hr
      clear hr
      go_enter Tryd.func29, Tryd.ntmps29
      go_wp2_with (first | (go_at_call 53; clear T1; refine (ofTerm_eq HA.out _).mono ?_; rintro e w1 ⟨rfl, hb1⟩; have U1 := hidq (U0.out.below hb1); have X1 := hidq (X0.out.below hb1); have c1 := X1.out.cells; have B1 := hidq (below_trans B0.out hb1); clear hb1) | (go_at_call 52; clear T2; refine (SA.out _ U1.out).mono ?_; rintro e w2 ⟨rfl, hb2⟩; have U2 := hidq (U1.out.below hb2); have X2 := hidq (X1.out.below hb2); have c2 := X2.out.cells; have B2 := hidq (below_trans B1.out hb2); clear hb2) | (go_at_call 53; refine (ofTerm_eq HB.out _).mono ?_; rintro e w3 ⟨rfl, hb3⟩; have U3 := hidq (U2.out.below hb3); have B3 := hidq (below_trans B2.out hb3); clear hb3) | (go_at_call 52; refine (SB.out _ U3.out).mono ?_; rintro e w4 ⟨rfl, hb4⟩; have B4 := hidq (below_trans B3.out hb4); clear hb4))
      go_ret
      exact ⟨rfl, B4.out⟩
set_option maxRecDepth 100000 in
set_option maxHeartbeats 4000000 in
theorem eval1_any {A : List M.Tm} (hA : M.Ok A) {k : Int} (h0 : 0 ≤ k) (h1 : k < (A.length : Int)) {r : Bool} (hr : M.usesS A (M.at_ A k.toNat) = r) {D : Nat} {vl : Value} (w : World) (xD : Bx1 w D vl 22) (u : Ts w vl A) :
    Calls Tryd.prog 28 #[.int .i64 k, .pointer (some ⟨D, 0, none⟩)] w fun e w' => e = .returned (.bool r) ∧ Below w.heap.size w w' := by
  obtain ⟨j, rfl⟩ : ∃ j : Nat, k = j := ⟨k.toNat, by omega⟩
  rw [Int.toNat_natCast] at hr
  have hj : j < A.length := by omega
  obtain ⟨ao, cap, rfl, q1, q2, q3⟩ := u.form
  obtain ⟨b, off, rfl⟩ := q3 (by omega)
  obtain ⟨τ, hτ⟩ : ∃ τ, M.at_ A j = τ := ⟨_, rfl⟩
  rw [hτ] at hr
  have hm := (hA.2 j hj).1
  rw [hτ] at hm
  have UC := hidq (fun W (u : Ts W (.slice (some ⟨b, off, none⟩) A.length cap) A) => usesSealed_eq hr (M.may_kinds hm) (fun p hp => by have := M.parts_ahead hm p hp; omega) W u)
  have HT := hidq hτ
  have HJ := hidq hj
  obtain ⟨G, HG, HF, HO, HW, ne⟩ := clq_of w w (fun X => Bx1 X D (.slice (some ⟨b, off, none⟩) A.length cap) 22 ∧ Ts X (.slice (some ⟨b, off, none⟩) A.length cap) A) (fun _ _ h hb => ⟨h.1.below hb, h.2.below hb⟩) ⟨xD, u⟩ (Below.refl _ _)
  have h3 := fun c : Clq G => (HF.out c).1.cell
  have h4 := fun c : Clq G => Ts.cell (HF.out c).2 hj
  rw [hτ] at h4
  have j0 : (0 : Int) ≤ j := by omega
  have jc : ¬ cap = 0 := by omega
  clear hτ hm hr xD u q3 hA h0
  generalize A.length = n at *
  go_enter Tryd.func28, Tryd.ntmps28
  go_upto_region 1 with fail
  refine regionq (by kernel_rfl) (by kernel_rfl) HW.out ?_
  repeat (go_big_quiet_step (first | (go_at_call 29; exact quietq HG.out _ (UC.out _ (HF.out _).2))))
  refine wpQuiet_nil ?_
  rintro _ ⟨s2, rfl⟩
  have hB2 := hidq (HO.out s2)
  go_wp2
  go_ret
  exact ⟨rfl, hB2.out⟩
set_option maxRecDepth 100000 in
set_option maxHeartbeats 4000000 in
theorem eval2_any {A : List M.Tm} {k : Int} (h0 : 0 ≤ k) (h1 : k < (A.length : Int)) {r : Bool} {m : Nat} (hr : M.noBlk m (M.at_ A k.toNat) = r) {D E : Nat} {vl : Value} {ab : Option Addr} {cb : Nat} (w : World) (xD : Bx1 w D vl 22) (xE : Bx1 w E (.slice ab m cb) 50) (u : Ts w vl A) :
    Calls Tryd.prog 30 #[.int .i64 k, .pointer (some ⟨D, 0, none⟩), .pointer (some ⟨E, 0, none⟩)] w fun e w' => e = .returned (.bool r) ∧ Below w.heap.size w w' := by
  obtain ⟨j, rfl⟩ : ∃ j : Nat, k = j := ⟨k.toNat, by omega⟩
  rw [Int.toNat_natCast] at hr
  have hj : j < A.length := by omega
  obtain ⟨ao, cap, rfl, q1, q2, q3⟩ := u.form
  obtain ⟨b, off, rfl⟩ := q3 (by omega)
  obtain ⟨τ, hτ⟩ : ∃ τ, M.at_ A j = τ := ⟨_, rfl⟩
  rw [hτ] at hr
  obtain ⟨x1, x2, x3⟩ := Ts.cell u hj
  rw [hτ] at x1 x2 x3
  have d1 := xD.cell
  have e1 := xE.cell
  have j0 : (0 : Int) ≤ j := by omega
  have jc : ¬ cap = 0 := by omega
  unfold M.noBlk at hr
  clear hτ xD xE u q3 h0
  generalize A.length = n at *
  by_cases k1 : τ.1 = 1
  · have k1' : (τ.1 == 1) = true := by simpa using k1
    by_cases k2 : (m : Int) ≤ τ.2.1
    · obtain rfl : true = r := by rw [← hr]; simp [k1, k2]
      have k3 : decide ((m : Int) ≤ τ.2.1) = true := by simpa using k2
      clear hr
      go_enter Tryd.func30, Tryd.ntmps30
      go_wp2
      go_quiet (fail)
      go_wp2
      go_ret
      exact ⟨rfl, below_dq (Below.refl _ _) _⟩
    · obtain rfl : false = r := by rw [← hr]; simp [k2]
      have k3 : decide ((m : Int) ≤ τ.2.1) = false := by simpa using k2
      clear hr
      go_enter Tryd.func30, Tryd.ntmps30
      go_wp2
      go_quiet (fail)
      go_wp2
      go_ret
      exact ⟨rfl, below_dq (Below.refl _ _) _⟩
  · have k1' : (τ.1 == 1) = false := by simpa using k1
    obtain rfl : false = r := by rw [← hr]; simp [k1]
    clear hr
    go_enter Tryd.func30, Tryd.ntmps30
    go_wp2
    go_quiet (fail)
    go_wp2
    go_ret
    exact ⟨rfl, below_dq (Below.refl _ _) _⟩
set_option maxRecDepth 100000 in
set_option maxHeartbeats 4000000 in
theorem idx_e1 (p : Int → Bool) (D : Nat) (L : List Int) (v : Value) (w : World) (u : Is w v L)
    (hc : ∀ X, Below w.heap.size w X → ∀ x ∈ L, Calls Tryd.prog 28 #[.int .i64 x, .pointer (some ⟨D, 0, none⟩)] X fun e w' => e = .returned (.bool (p x)) ∧ Below X.heap.size X w') (r : Bool) (hr : L.any p = r) :
    Calls Tryd.prog 34 #[v, (.func (.func 28) #[] #[.pointer (some ⟨D, 0, none⟩)])] w fun e w' => (∃ i : Int, e = .returned (.int .i64 i) ∧ (if r = true then 0 ≤ i else i = -1)) ∧ Below w.heap.size w w' := by
  obtain ⟨a1, c1, rfl, hp1, hp2, hp4⟩ := u.form
  have hm : L.length ≤ maxLen := by omega
  unfold maxLen at hm
  have U := hidq (fun X (hb : Below w.heap.size w X) => u.below hb)
  have HC := hidq hc
  have HP4 := hidq hp4
  have HR := hidq hr
  clear hp4 u hc hr
  generalize hn : L.length = n at *
  have HN := hidq hn
  clear hn
  go_enter Tryd.func34, Tryd.ntmps34
  go_wp2
  go_loopw [8] (fun x wr => ∃ k : Nat, k ≤ n ∧ x = .int .i64 k ∧ (L.take k).any p = false ∧ Below w.heap.size w wr) (fun x _ => n - (intOf x).toNat)
  case atStart => exact ⟨0, by omega, rfl, by simp, Below.refl _ _⟩
  case round =>
    obtain ⟨k, hk, rfl, hno, hb⟩ := hrel
    have HNO := hidq hno
    have HB := hidq hb
    by_cases hlt : k < n
    · obtain ⟨b1, o1, rfl⟩ := HP4.out (by omega)
      obtain ⟨x, hx⟩ : ∃ x, L[k]? = some x := ⟨_, List.getElem?_eq_getElem (by rw [HN.out]; exact hlt)⟩
      have c1 := Is.cellv (U.out _ hb) hx
      have HX := hidq hx
      have CX := hidq (HC.out wr hb x (List.mem_of_getElem? hx))
      clear hx hno hb
      cases hp : p x with
      | true =>
        obtain rfl : r = true := by rw [← HR.out, List.any_eq_true]; exact ⟨x, List.mem_of_getElem? HX.out, hp⟩
        rw [hp] at CX
        clear hp
        go_wp2_with (first | (go_at_call 28; refine CX.out.mono ?_; rintro rr w2 ⟨rfl, hb2⟩; have B2 := hidq (below_trans HB.out hb2); clear hb2))
        go_ret
        exact ⟨⟨_, rfl, by simp⟩, B2.out⟩
      | false =>
        have HN2 := hidq (any_take_nextq HX.out HNO.out hp)
        rw [hp] at CX
        clear hp
        go_wp2_with (first | (go_at_call 28; refine CX.out.mono ?_; rintro rr w2 ⟨rfl, hb2⟩; have B2 := hidq (below_trans HB.out hb2); clear hb2))
        go_roundw
        case rel => exact ⟨k + 1, by omega, by go_num, HN2.out, B2.out⟩
        case measure => simp [intOf]; omega
    · obtain rfl : r = false := by rw [← HR.out, ← HNO.out, List.take_of_length_le (by rw [HN.out]; omega)]
      clear hno hb
      go_wp2
      go_ret
      first | exact ⟨⟨_, rfl, by simp⟩, HB.out⟩ | exact ⟨rfl, HB.out⟩
set_option maxRecDepth 100000 in
theorem has_e1 (p : Int → Bool) (D : Nat) (L : List Int) (v : Value) (w : World) (u : Is w v L)
    (hc : ∀ X, Below w.heap.size w X → ∀ x ∈ L, Calls Tryd.prog 28 #[.int .i64 x, .pointer (some ⟨D, 0, none⟩)] X fun e w' => e = .returned (.bool (p x)) ∧ Below X.heap.size X w') (r : Bool) (hr : L.any p = r) :
    Calls Tryd.prog 18 #[v, (.func (.func 28) #[] #[.pointer (some ⟨D, 0, none⟩)])] w fun e w' => e = .returned (.bool r) ∧ Below w.heap.size w w' := by
  have HI := hidq (idx_e1 p D L v w u hc r hr)
  clear hc u hr
  go_enter Tryd.func18, Tryd.ntmps18
  cases r with
  | true =>
    go_wp2_with (first | (go_at_call 34; refine HI.out.mono ?_; rintro rr w2 ⟨⟨i, rfl, hi⟩, hb2⟩; rw [if_pos rfl] at hi))
    go_ret
    exact ⟨rfl, hb2⟩
  | false =>
    go_wp2_with (first | (go_at_call 34; refine HI.out.mono ?_; rintro rr w2 ⟨⟨i, rfl, hi⟩, hb2⟩; rw [if_neg (by decide)] at hi; subst hi))
    go_ret
    exact ⟨rfl, hb2⟩
set_option maxRecDepth 100000 in
set_option maxHeartbeats 4000000 in
theorem idx_e2 (p : Int → Bool) (D E : Nat) (L : List Int) (v : Value) (w : World) (u : Is w v L)
    (hc : ∀ X, Below w.heap.size w X → ∀ x ∈ L, Calls Tryd.prog 30 #[.int .i64 x, .pointer (some ⟨D, 0, none⟩), .pointer (some ⟨E, 0, none⟩)] X fun e w' => e = .returned (.bool (p x)) ∧ Below X.heap.size X w') (r : Bool) (hr : L.any p = r) :
    Calls Tryd.prog 34 #[v, (.func (.func 30) #[] #[.pointer (some ⟨D, 0, none⟩), .pointer (some ⟨E, 0, none⟩)])] w fun e w' => (∃ i : Int, e = .returned (.int .i64 i) ∧ (if r = true then 0 ≤ i else i = -1)) ∧ Below w.heap.size w w' := by
  obtain ⟨a1, c1, rfl, hp1, hp2, hp4⟩ := u.form
  have hm : L.length ≤ maxLen := by omega
  unfold maxLen at hm
  have U := hidq (fun X (hb : Below w.heap.size w X) => u.below hb)
  have HC := hidq hc
  have HP4 := hidq hp4
  have HR := hidq hr
  clear hp4 u hc hr
  generalize hn : L.length = n at *
  have HN := hidq hn
  clear hn
  go_enter Tryd.func34, Tryd.ntmps34
  go_wp2
  go_loopw [8] (fun x wr => ∃ k : Nat, k ≤ n ∧ x = .int .i64 k ∧ (L.take k).any p = false ∧ Below w.heap.size w wr) (fun x _ => n - (intOf x).toNat)
  case atStart => exact ⟨0, by omega, rfl, by simp, Below.refl _ _⟩
  case round =>
    obtain ⟨k, hk, rfl, hno, hb⟩ := hrel
    have HNO := hidq hno
    have HB := hidq hb
    by_cases hlt : k < n
    · obtain ⟨b1, o1, rfl⟩ := HP4.out (by omega)
      obtain ⟨x, hx⟩ : ∃ x, L[k]? = some x := ⟨_, List.getElem?_eq_getElem (by rw [HN.out]; exact hlt)⟩
      have c1 := Is.cellv (U.out _ hb) hx
      have HX := hidq hx
      have CX := hidq (HC.out wr hb x (List.mem_of_getElem? hx))
      clear hx hno hb
      cases hp : p x with
      | true =>
        obtain rfl : r = true := by rw [← HR.out, List.any_eq_true]; exact ⟨x, List.mem_of_getElem? HX.out, hp⟩
        rw [hp] at CX
        clear hp
        go_wp2_with (first | (go_at_call 30; refine CX.out.mono ?_; rintro rr w2 ⟨rfl, hb2⟩; have B2 := hidq (below_trans HB.out hb2); clear hb2))
        go_ret
        exact ⟨⟨_, rfl, by simp⟩, B2.out⟩
      | false =>
        have HN2 := hidq (any_take_nextq HX.out HNO.out hp)
        rw [hp] at CX
        clear hp
        go_wp2_with (first | (go_at_call 30; refine CX.out.mono ?_; rintro rr w2 ⟨rfl, hb2⟩; have B2 := hidq (below_trans HB.out hb2); clear hb2))
        go_roundw
        case rel => exact ⟨k + 1, by omega, by go_num, HN2.out, B2.out⟩
        case measure => simp [intOf]; omega
    · obtain rfl : r = false := by rw [← HR.out, ← HNO.out, List.take_of_length_le (by rw [HN.out]; omega)]
      clear hno hb
      go_wp2
      go_ret
      first | exact ⟨⟨_, rfl, by simp⟩, HB.out⟩ | exact ⟨rfl, HB.out⟩
set_option maxRecDepth 100000 in
theorem has_e2 (p : Int → Bool) (D E : Nat) (L : List Int) (v : Value) (w : World) (u : Is w v L)
    (hc : ∀ X, Below w.heap.size w X → ∀ x ∈ L, Calls Tryd.prog 30 #[.int .i64 x, .pointer (some ⟨D, 0, none⟩), .pointer (some ⟨E, 0, none⟩)] X fun e w' => e = .returned (.bool (p x)) ∧ Below X.heap.size X w') (r : Bool) (hr : L.any p = r) :
    Calls Tryd.prog 18 #[v, (.func (.func 30) #[] #[.pointer (some ⟨D, 0, none⟩), .pointer (some ⟨E, 0, none⟩)])] w fun e w' => e = .returned (.bool r) ∧ Below w.heap.size w w' := by
  have HI := hidq (idx_e2 p D E L v w u hc r hr)
  clear hc u hr
  go_enter Tryd.func18, Tryd.ntmps18
  cases r with
  | true =>
    go_wp2_with (first | (go_at_call 34; refine HI.out.mono ?_; rintro rr w2 ⟨⟨i, rfl, hi⟩, hb2⟩; rw [if_pos rfl] at hi))
    go_ret
    exact ⟨rfl, hb2⟩
  | false =>
    go_wp2_with (first | (go_at_call 34; refine HI.out.mono ?_; rintro rr w2 ⟨⟨i, rfl, hi⟩, hb2⟩; rw [if_neg (by decide)] at hi; subst hi))
    go_ret
    exact ⟨rfl, hb2⟩
end Go.Proofs.YtomhccendbnamaaDoor
namespace Go.Proofs.YtomhccendbnamaaDoor
open Go.RowKit
def M.lk (K : List (Int × M.Val)) (p : Int) : M.Val := match vfind p K with | some x => x.2 | none => M.zV
set_option maxRecDepth 100000 in
theorem run_lookW (t : Int) (ht : M.fitI t) {x : M.Val} {W : World} {b : Nat} {K : List (Int × M.Val)} (hx : M.lk K t = x) (h : MpV W b K) :
    (Instr.lookup 71 (.map (some b)) (.int .i64 t) false).run Tryd.prog W = .ok (.agg #[.bool x.1, .bool x.2.1, .int .u64 (M.nu x.2.2.1.1), .int .u64 (M.nu x.2.2.1.2), .int .u64 (M.nu x.2.2.2.1.1.1), .int .u64 (M.nu x.2.2.2.1.1.2), .int .u64 (M.nu x.2.2.2.1.2.1), .int .u64 (M.nu x.2.2.2.1.2.2), .int .i64 x.2.2.2.2]) W := by
  subst hx; exact run_lookV t ht h
set_option maxRecDepth 100000 in
set_option maxHeartbeats 4000000 in
theorem comes_atom {ta tb : Int} {T : List M.Blk} {y : M.Blk} (h0 : 0 ≤ ta) (hy : T[ta.toNat]? = some y) {x : M.Val} (hx : M.ofB y = x) {vm va : Value} (w : World) (u : Bks w va T) :
    Calls Tryd.prog 31 #[.agg #[.int .i64 1, .int .i64 ta, .int .i64 tb], vm, va] w fun e w' => e = .returned (.agg #[.bool x.1, .bool x.2.1, .int .u64 (M.nu x.2.2.1.1), .int .u64 (M.nu x.2.2.1.2), .int .u64 (M.nu x.2.2.2.1.1.1), .int .u64 (M.nu x.2.2.2.1.1.2), .int .u64 (M.nu x.2.2.2.1.2.1), .int .u64 (M.nu x.2.2.2.1.2.2), .int .i64 x.2.2.2.2]) ∧ Below w.heap.size w w' := by
  obtain ⟨j, rfl⟩ : ∃ j : Nat, ta = j := ⟨ta.toNat, by omega⟩
  rw [Int.toNat_natCast] at hy
  have hj : j < T.length := (List.getElem?_eq_some_iff.1 hy).1
  have XZ := hidq (zbox (w.alloc (.cells #[.int .i64 1, .int .i64 (j : Int), .int .i64 tb] 43)))
  rw [World.size_alloc] at XZ
  have B0 := hidq (show Below w.heap.size w ((w.alloc (.cells #[.int .i64 1, .int .i64 (j : Int), .int .i64 tb] 43)).alloc (.cells #[.bool false, .bool false, .int .u64 0, .int .u64 0, .int .u64 0, .int .u64 0, .int .u64 0, .int .u64 0, .int .i64 0] 29)) from below_one (below_one (Below.refl _ _)))
  obtain ⟨ao, cap, rfl, q1, q2, q3⟩ := u.form
  obtain ⟨b, off, rfl⟩ := q3 (by omega)
  obtain ⟨y1, y2⟩ := Bks.cell ((u.alloc (.cells #[.int .i64 1, .int .i64 (j : Int), .int .i64 tb] 43)).alloc (.cells #[.bool false, .bool false, .int .u64 0, .int .u64 0, .int .u64 0, .int .u64 0, .int .u64 0, .int .u64 0, .int .i64 0] 29)) hy
  have HX := hidq hx
  have j0 : (0 : Int) ≤ j := by omega
  have jc : ¬ cap = 0 := by omega
  clear u q3 hy hx h0
  generalize T.length = n at *
  go_enter Tryd.func31, Tryd.ntmps31
  go_wp2_with (first | (go_at_call 54; refine (ofBlock_eq HX.out _).mono ?_; rintro e w1 ⟨rfl, hb1⟩; have XW := XZ.out.below hb1; obtain ⟨c0, c1, c2, c3, c4, c5, c6, c7, c8⟩ := XW.cells; obtain ⟨f0, f1, f2, f3, f4, f5, f6, f7, f8⟩ := XW.frozen; have B1 := hidq (below_trans B0.out hb1); clear hb1 XW))
  refine bodyPost_ret (v := .agg #[.bool _, .bool _, .int .u64 _, .int .u64 _, .int .u64 _, .int .u64 _, .int .u64 _, .int .u64 _, .int .i64 _]) (by simp [results, go_sem, c0, c1, c2, c3, c4, c5, c6, c7, c8, Tryd.results31]) rfl ⟨rfl, below_set9 B1.out (by omega) _ _ _ _ _ _ _ _ _⟩
set_option maxRecDepth 100000 in
set_option maxHeartbeats 4000000 in
theorem comes_part {tk ta tb : Int} (hk : tk = 2 ∨ tk = 3 ∨ tk = 4) (hf : M.fitI ta) {K : List (Int × M.Val)} {bm : Nat} {y : M.Val} (hy : M.lk K ta = y) {x : M.Val} (hx : M.ofB (M.partV y.2.2.1 (tk - 2)) = x) {va : Value} (w : World) (m : MpV w bm K) :
    Calls Tryd.prog 31 #[.agg #[.int .i64 tk, .int .i64 ta, .int .i64 tb], .map (some bm), va] w fun e w' => e = .returned (.agg #[.bool x.1, .bool x.2.1, .int .u64 (M.nu x.2.2.1.1), .int .u64 (M.nu x.2.2.1.2), .int .u64 (M.nu x.2.2.2.1.1.1), .int .u64 (M.nu x.2.2.2.1.1.2), .int .u64 (M.nu x.2.2.2.1.2.1), .int .u64 (M.nu x.2.2.2.1.2.2), .int .i64 x.2.2.2.2]) ∧ Below w.heap.size w w' := by
  have XZ := hidq (zbox (w.alloc (.cells #[.int .i64 tk, .int .i64 ta, .int .i64 tb] 43)))
  rw [World.size_alloc] at XZ
  have B0 := hidq (show Below w.heap.size w ((w.alloc (.cells #[.int .i64 tk, .int .i64 ta, .int .i64 tb] 43)).alloc (.cells #[.bool false, .bool false, .int .u64 0, .int .u64 0, .int .u64 0, .int .u64 0, .int .u64 0, .int .u64 0, .int .i64 0] 29)) from below_one (below_one (Below.refl _ _)))
  have hl1 := run_lookW ta hf hy ((m.alloc (.cells #[.int .i64 tk, .int .i64 ta, .int .i64 tb] 43)).alloc (.cells #[.bool false, .bool false, .int .u64 0, .int .u64 0, .int .u64 0, .int .u64 0, .int .u64 0, .int .u64 0, .int .i64 0] 29))
  have HX := hidq hx
  have n1 : ¬ tk = 1 := by omega
  have n5 : ¬ tk = 5 := by omega
  have hw : IntKind.i64.wrap (tk - 2) = tk - 2 := by rw [IntKind.wrap_i64]; omega
  clear hx hy m hk
  go_enter Tryd.func31, Tryd.ntmps31
  go_wp2_with (first | (go_at_call 56; refine (partOf_eq HX.out _).mono ?_; rintro e w1 ⟨rfl, hb1⟩; have XW := XZ.out.below hb1; obtain ⟨c0, c1, c2, c3, c4, c5, c6, c7, c8⟩ := XW.cells; obtain ⟨f0, f1, f2, f3, f4, f5, f6, f7, f8⟩ := XW.frozen; have B1 := hidq (below_trans B0.out hb1); clear hb1 XW))
  refine bodyPost_ret (v := .agg #[.bool _, .bool _, .int .u64 _, .int .u64 _, .int .u64 _, .int .u64 _, .int .u64 _, .int .u64 _, .int .i64 _]) (by simp [results, go_sem, c0, c1, c2, c3, c4, c5, c6, c7, c8, Tryd.results31]) rfl ⟨rfl, below_set9 B1.out (by omega) _ _ _ _ _ _ _ _ _⟩
set_option maxRecDepth 100000 in
set_option maxHeartbeats 4000000 in
theorem comes_wrap {ta tb : Int} (hf : M.fitI ta) (hg : M.fitI tb) {K : List (Int × M.Val)} {bm : Nat} {y z : M.Val} (hy : M.lk K ta = y) (hz : M.lk K tb = z) {x : M.Val} (hx : M.ofS (M.wrap y.2.2.1 z.2.2.1) = x) {va : Value} (w : World) (m : MpV w bm K) :
    Calls Tryd.prog 31 #[.agg #[.int .i64 5, .int .i64 ta, .int .i64 tb], .map (some bm), va] w fun e w' => e = .returned (.agg #[.bool x.1, .bool x.2.1, .int .u64 (M.nu x.2.2.1.1), .int .u64 (M.nu x.2.2.1.2), .int .u64 (M.nu x.2.2.2.1.1.1), .int .u64 (M.nu x.2.2.2.1.1.2), .int .u64 (M.nu x.2.2.2.1.2.1), .int .u64 (M.nu x.2.2.2.1.2.2), .int .i64 x.2.2.2.2]) ∧ Below w.heap.size w w' := by
  have XZ := hidq (zbox (w.alloc (.cells #[.int .i64 5, .int .i64 ta, .int .i64 tb] 43)))
  rw [World.size_alloc] at XZ
  have B0 := hidq (show Below w.heap.size w ((w.alloc (.cells #[.int .i64 5, .int .i64 ta, .int .i64 tb] 43)).alloc (.cells #[.bool false, .bool false, .int .u64 0, .int .u64 0, .int .u64 0, .int .u64 0, .int .u64 0, .int .u64 0, .int .i64 0] 29)) from below_one (below_one (Below.refl _ _)))
  have hl1 := run_lookW ta hf hy ((m.alloc (.cells #[.int .i64 5, .int .i64 ta, .int .i64 tb] 43)).alloc (.cells #[.bool false, .bool false, .int .u64 0, .int .u64 0, .int .u64 0, .int .u64 0, .int .u64 0, .int .u64 0, .int .i64 0] 29))
  have hl2 := run_lookW tb hg hz ((m.alloc (.cells #[.int .i64 5, .int .i64 ta, .int .i64 tb] 43)).alloc (.cells #[.bool false, .bool false, .int .u64 0, .int .u64 0, .int .u64 0, .int .u64 0, .int .u64 0, .int .u64 0, .int .i64 0] 29))
  have HX := hidq hx
  clear hx hy hz m
  go_enter Tryd.func31, Tryd.ntmps31
  go_wp2_with (first | (go_at_call 55; refine (wrapped_eq HX.out _).mono ?_; rintro e w1 ⟨rfl, hb1⟩; have XW := XZ.out.below hb1; obtain ⟨c0, c1, c2, c3, c4, c5, c6, c7, c8⟩ := XW.cells; obtain ⟨f0, f1, f2, f3, f4, f5, f6, f7, f8⟩ := XW.frozen; have B1 := hidq (below_trans B0.out hb1); clear hb1 XW))
  refine bodyPost_ret (v := .agg #[.bool _, .bool _, .int .u64 _, .int .u64 _, .int .u64 _, .int .u64 _, .int .u64 _, .int .u64 _, .int .i64 _]) (by simp [results, go_sem, c0, c1, c2, c3, c4, c5, c6, c7, c8, Tryd.results31]) rfl ⟨rfl, below_set9 B1.out (by omega) _ _ _ _ _ _ _ _ _⟩
end Go.Proofs.YtomhccendbnamaaDoor
namespace Go.Proofs.YtomhccendbnamaaDoor
open Go.RowKit
theorem vfind_map (f : Int → M.Val) (p : Int) : ∀ L : List Int, (p ∈ L → ∃ i, vfind p (L.map fun k => (k, f k)) = some (i, f p)) ∧ (p ∉ L → vfind p (L.map fun k => (k, f k)) = none)
  | [] => ⟨fun h => absurd h (by simp), fun _ => rfl⟩
  | x :: L => by
    obtain ⟨h1, h2⟩ := vfind_map f p L
    rw [List.map_cons]
    unfold vfind
    by_cases hx : p = x
    · subst hx
      rw [if_pos rfl]
      exact ⟨fun _ => ⟨0, rfl⟩, fun h => absurd (List.mem_cons_self ..) h⟩
    · rw [if_neg hx]
      constructor
      · intro h
        obtain ⟨i, hi⟩ := h1 ((List.mem_cons.1 h).resolve_left hx)
        exact ⟨i + 1, by rw [hi]; rfl⟩
      · intro h
        rw [h2 fun h' => h (List.mem_cons_of_mem _ h')]; rfl
theorem lk_map {f : Int → M.Val} {p : Int} {L : List Int} (h : p ∈ L) : M.lk (L.map fun k => (k, f k)) p = f p := by
  obtain ⟨i, hi⟩ := (vfind_map f p L).1 h
  unfold M.lk; rw [hi]
/-- what came of the first q places -/
def M.evK (A : List M.Tm) (T : List M.Blk) (I : List Int) (q : Nat) : List (Int × M.Val) := (I.take q).map fun k => (k, M.ev A T k.toNat)
theorem M.evK_succ {A : List M.Tm} {T : List M.Blk} {I : List Int} {q : Nat} {k : Int} (h : I[q]? = some k) : M.evK A T I (q + 1) = M.evK A T I q ++ [(k, M.ev A T k.toNat)] := by
  obtain ⟨hk, e⟩ := List.getElem?_eq_some_iff.1 h
  unfold M.evK
  rw [List.take_succ_eq_append_getElem hk, List.map_append, e]
  rfl
theorem M.rise_take {I : List Int} (hr : I.Pairwise (· < ·)) {q : Nat} {k p : Int} (hk : I[q]? = some k) (hp : p ∈ I) (hlt : p < k) : p ∈ I.take q := by
  obtain ⟨j, hj, rfl⟩ := List.mem_iff_getElem.1 hp
  obtain ⟨hq, rfl⟩ := List.getElem?_eq_some_iff.1 hk
  have hjq : j < q := by
    rcases Nat.lt_trichotomy j q with h | h | h
    · exact h
    · subst h; omega
    · have := List.pairwise_iff_getElem.1 hr q j hq hj h; omega
  rw [List.mem_take_iff_getElem]
  exact ⟨j, by omega, rfl⟩
theorem M.rise_new {I : List Int} (hr : I.Pairwise (· < ·)) {q : Nat} {k : Int} (hk : I[q]? = some k) : k ∉ I.take q := by
  intro h
  obtain ⟨hq, rfl⟩ := List.getElem?_eq_some_iff.1 hk
  obtain ⟨j, hj, e⟩ := List.mem_take_iff_getElem.1 h
  have := List.pairwise_iff_getElem.1 hr j q (by omega) hq (by omega)
  omega
set_option maxRecDepth 100000 in
theorem comesOf_eq {τ : M.Tm} {T : List M.Blk} {K : List (Int × M.Val)} {bm : Nat} (hk : τ.1 = 1 ∨ (τ.1 = 2 ∨ τ.1 = 3 ∨ τ.1 = 4) ∨ τ.1 = 5) (hf : M.fitT τ) (hp : ∀ p ∈ M.parts τ, 0 ≤ p) (ha : τ.1 = 1 → 0 ≤ τ.2.1 ∧ τ.2.1 < (T.length : Int)) {x : M.Val} (hx : M.stepE (fun p => M.lk K (p : Int)) T τ = x) {va : Value} (w : World) (u : Bks w va T) (m : MpV w bm K) :
    Calls Tryd.prog 31 #[(.agg #[.int .i64 τ.1, .int .i64 τ.2.1, .int .i64 τ.2.2]), .map (some bm), va] w fun e w' => e = .returned (.agg #[.bool x.1, .bool x.2.1, .int .u64 (M.nu x.2.2.1.1), .int .u64 (M.nu x.2.2.1.2), .int .u64 (M.nu x.2.2.2.1.1.1), .int .u64 (M.nu x.2.2.2.1.1.2), .int .u64 (M.nu x.2.2.2.1.2.1), .int .u64 (M.nu x.2.2.2.1.2.2), .int .i64 x.2.2.2.2]) ∧ Below w.heap.size w w' := by
  obtain ⟨tk, ta, tb⟩ := τ
  dsimp only at hk ha
  unfold M.stepE at hx
  dsimp only at hx
  rcases hk with h1 | h1 | h1
  · subst h1
    rw [if_pos rfl] at hx
    obtain ⟨a0, a1⟩ := ha rfl
    have e : T[ta.toNat]? = some (T[ta.toNat]'(by omega)) := List.getElem?_eq_getElem _
    rw [e] at hx
    exact comes_atom a0 e hx w u
  · rw [if_neg (by omega), if_neg (by omega)] at hx
    have hpp : M.parts (tk, ta, tb) = [ta] := by unfold M.parts; rw [if_pos h1]
    have p0 := hp ta (by rw [hpp]; simp)
    rw [show ((ta.toNat : Nat) : Int) = ta by omega] at hx
    exact comes_part h1 hf.2.1 rfl hx w m
  · subst h1
    rw [if_neg (by decide), if_pos rfl] at hx
    have hpp : M.parts (5, ta, tb) = [ta, tb] := by unfold M.parts; rw [if_neg (by dsimp only; decide), if_pos rfl]
    have p0 := hp ta (by rw [hpp]; simp)
    have p1 := hp tb (by rw [hpp]; simp)
    rw [show ((ta.toNat : Nat) : Int) = ta by omega, show ((tb.toNat : Nat) : Int) = tb by omega] at hx
    exact comes_wrap hf.2.1 hf.2.2 rfl rfl hx w m
theorem M.step_ev {A : List M.Tm} (hA : M.Ok A) {T : List M.Blk} {m : Nat} (hm : m < A.length) {I : List Int} (hI : M.Win A m I) (hr : I.Pairwise (· < ·)) {q : Nat} {k : Nat} (hk : I[q]? = some (k : Int)) (hkl : k < A.length) : M.stepE (fun p => M.lk (M.evK A T I q) (p : Int)) T (M.at_ A k) = M.ev A T k := by
  rw [M.ev_eq (hA.2 k hkl).1]
  refine M.stepE_congr (fun p hp => ?_) (M.may_kinds (hA.2 k hkl).1)
  obtain ⟨h1, h2, h3⟩ := M.win_parts hA hm hI hk p hp
  have e : ((p.toNat : Nat) : Int) = p := by omega
  show M.lk (M.evK A T I q) ((p.toNat : Nat) : Int) = _
  rw [e]
  exact lk_map (M.rise_take hr hk h1 h3)
end Go.Proofs.YtomhccendbnamaaDoor
namespace Go.Proofs.YtomhccendbnamaaDoor
open Go.RowKit
set_option maxRecDepth 100000 in
set_option maxHeartbeats 8000000 in
theorem eval_err {A : List M.Tm} {i : Int} {T : List M.Blk} {r1 r2 : Bool} {n : Int} (hn : M.deepE A i = n) (h1 : (M.withinL A i).any (fun k => M.usesS A (M.at_ A k.toNat)) = r1) (h2 : (M.withinL A i).any (fun k => M.noBlk T.length (M.at_ A k.toNat)) = r2) (hw : ¬ n = 0 ∨ n = 0 ∧ r1 = true ∨ n = 0 ∧ r1 = false ∧ r2 = true) {vl va : Value} (w : World) (u : Ts w vl A) (ua : Bks w va T) :
    Calls Tryd.prog 15 #[vl, .int .i64 i, va] w fun e w' => e = .returned (.tuple #[(.agg #[.bool M.zV.1, .bool M.zV.2.1, .int .u64 (M.nu M.zV.2.2.1.1), .int .u64 (M.nu M.zV.2.2.1.2), .int .u64 (M.nu M.zV.2.2.2.1.1.1), .int .u64 (M.nu M.zV.2.2.2.1.1.2), .int .u64 (M.nu M.zV.2.2.2.1.2.1), .int .u64 (M.nu M.zV.2.2.2.1.2.2), .int .i64 M.zV.2.2.2.2]), .int .i64 (if n = 0 then if r1 = true then 1 else 4 else n)]) ∧ Below w.heap.size w w' := by
  rw [zV_eq]
  obtain ⟨ab, cb, rfl, _, _, _⟩ := ua.form
  obtain ⟨ao, cl, rfl, _, _, _⟩ := u.form
  have XZ := hidq (zbox ((w.alloc (.cells #[(.slice ao A.length cl)] 22)).alloc (.cells #[.slice ab T.length cb] 50)))
  rw [World.size_alloc, World.size_alloc] at XZ
  have XL := hidq (((Bx1.new w (.slice ao A.length cl) 22).alloc (.cells #[.slice ab T.length cb] 50)).alloc (.cells #[.bool false, .bool false, .int .u64 0, .int .u64 0, .int .u64 0, .int .u64 0, .int .u64 0, .int .u64 0, .int .i64 0] 29))
  have XA := hidq ((Bx1.new (w.alloc (.cells #[(.slice ao A.length cl)] 22)) (.slice ab T.length cb) 50).alloc (.cells #[.bool false, .bool false, .int .u64 0, .int .u64 0, .int .u64 0, .int .u64 0, .int .u64 0, .int .u64 0, .int .i64 0] 29))
  rw [World.size_alloc] at XA
  have U0 := hidq (((u.alloc (.cells #[(.slice ao A.length cl)] 22)).alloc (.cells #[.slice ab T.length cb] 50)).alloc (.cells #[.bool false, .bool false, .int .u64 0, .int .u64 0, .int .u64 0, .int .u64 0, .int .u64 0, .int .u64 0, .int .i64 0] 29))
  have K0 := hidq (((ua.alloc (.cells #[(.slice ao A.length cl)] 22)).alloc (.cells #[.slice ab T.length cb] 50)).alloc (.cells #[.bool false, .bool false, .int .u64 0, .int .u64 0, .int .u64 0, .int .u64 0, .int .u64 0, .int .u64 0, .int .i64 0] 29))
  have B0 := hidq (show Below w.heap.size w (((w.alloc (.cells #[(.slice ao A.length cl)] 22)).alloc (.cells #[.slice ab T.length cb] 50)).alloc (.cells #[.bool false, .bool false, .int .u64 0, .int .u64 0, .int .u64 0, .int .u64 0, .int .u64 0, .int .u64 0, .int .i64 0] 29)) from below_one (below_one (below_one (Below.refl _ _))))
  obtain ⟨I, hI⟩ : ∃ I, M.withinL A i = I := ⟨_, rfl⟩
  rw [hI] at h1 h2
  have WC := hidq (fun W (u : Ts W (.slice ao A.length cl) A) => within_eq hI hn W u)
  have hri : M.deepE A i = 0 → M.Ok A ∧ ∀ x ∈ I, 0 ≤ x ∧ x < (A.length : Int) := fun h0 => by
    unfold M.deepE at h0
    by_cases ht : M.thr A i = true
    · obtain ⟨hA, t0, t1⟩ := M.thr_iff.1 ht
      refine ⟨hA, fun x hx => ?_⟩
      rw [← hI] at hx
      unfold M.withinL at hx
      rw [if_pos ht] at hx
      obtain ⟨j, hj, _, rfl⟩ := (M.outL_mem _ _ _).1 hx
      omega
    · rw [if_neg ht] at h0; cases h0
  have FI : Hid (∀ x ∈ I, elInt.ok x) := fun x hx => by
    rw [← hI] at hx
    unfold M.withinL at hx
    by_cases ht : M.thr A i = true
    · obtain ⟨hA, t0, t1⟩ := M.thr_iff.1 ht
      have := hA.1
      rw [if_pos ht] at hx
      obtain ⟨j, hj, _, rfl⟩ := (M.outL_mem _ _ _).1 hx
      exact show M.fitI _ from ⟨by omega, by omega⟩
    · rw [if_neg ht] at hx; cases hx
  have R1 := hidq h1
  have R2 := hidq h2
  have T1 := hidq trivial
  clear hI h1 h2 u ua
  rcases hw with h0 | ⟨h0, hr⟩ | ⟨h0, hr, hs⟩
  · rw [if_neg h0]
    clear hn hri
    go_enter Tryd.func15, Tryd.ntmps15
    go_wp2_with (first | (go_at_call 27; refine (WC.out _ U0.out).mono ?_; rintro e w1 ⟨v1, rfl, ho1, hb1⟩; obtain ⟨a1, k1, rfl, _⟩ := own_formq ho1; have I1 := hidq (Sl.of_own (E := elInt) ho1 FI.out); have XW := XZ.out.below hb1; obtain ⟨c0, c1, c2, c3, c4, c5, c6, c7, c8⟩ := XW.cells; obtain ⟨f0, f1, f2, f3, f4, f5, f6, f7, f8⟩ := XW.frozen; have XZ1 := hidq XW; have XL1 := hidq (XL.out.below hb1); have XA1 := hidq (XA.out.below hb1); have U1 := hidq (U0.out.below hb1); have K1 := hidq (K0.out.below hb1); have B1 := hidq (below_trans B0.out hb1); clear ho1 hb1 XW))
    refine bodyPost_ret (v := .tuple #[.agg #[.bool _, .bool _, .int .u64 _, .int .u64 _, .int .u64 _, .int .u64 _, .int .u64 _, .int .u64 _, .int .i64 _], .int .i64 _]) (by simp [results, go_sem, c0, c1, c2, c3, c4, c5, c6, c7, c8, Tryd.results15]) rfl ⟨rfl, below_set9 B1.out (by omega) _ _ _ _ _ _ _ _ _⟩
  · subst h0
    subst hr
    obtain ⟨hA, hri⟩ := hri hn
    have HA := hidq hA
    have RI := hidq hri
    rw [if_pos rfl, if_pos rfl]
    clear hn hri hA
    go_enter Tryd.func15, Tryd.ntmps15
    go_wp2_with (first | (go_at_call 27; refine (WC.out _ U0.out).mono ?_; rintro e w1 ⟨v1, rfl, ho1, hb1⟩; obtain ⟨a1, k1, rfl, _⟩ := own_formq ho1; have I1 := hidq (Sl.of_own (E := elInt) ho1 FI.out); have XW := XZ.out.below hb1; obtain ⟨c0, c1, c2, c3, c4, c5, c6, c7, c8⟩ := XW.cells; obtain ⟨f0, f1, f2, f3, f4, f5, f6, f7, f8⟩ := XW.frozen; have XZ1 := hidq XW; have XL1 := hidq (XL.out.below hb1); have XA1 := hidq (XA.out.below hb1); have U1 := hidq (U0.out.below hb1); have K1 := hidq (K0.out.below hb1); have B1 := hidq (below_trans B0.out hb1); clear ho1 hb1 XW) | (go_at_call 18; clear T1; refine (has_e1 _ _ _ _ _ I1.out (fun X hX x hx => eval1_any HA.out (RI.out x hx).1 (RI.out x hx).2 rfl X (XL1.out.below hX) (U1.out.below hX)) _ R1.out).mono ?_; rintro e w2 ⟨rfl, hb2⟩; have I2 := hidq (I1.out.below hb2); have XW := XZ1.out.below hb2; obtain ⟨c0, c1, c2, c3, c4, c5, c6, c7, c8⟩ := XW.cells; obtain ⟨f0, f1, f2, f3, f4, f5, f6, f7, f8⟩ := XW.frozen; have XZ2 := hidq XW; have XL2 := hidq (XL1.out.below hb2); have XA2 := hidq (XA1.out.below hb2); have U2 := hidq (U1.out.below hb2); have K2 := hidq (K1.out.below hb2); have B2 := hidq (below_trans B1.out hb2); clear hb2 XW))
    refine bodyPost_ret (v := .tuple #[.agg #[.bool _, .bool _, .int .u64 _, .int .u64 _, .int .u64 _, .int .u64 _, .int .u64 _, .int .u64 _, .int .i64 _], .int .i64 _]) (by simp [results, go_sem, c0, c1, c2, c3, c4, c5, c6, c7, c8, Tryd.results15]) rfl ⟨rfl, below_set9 B2.out (by omega) _ _ _ _ _ _ _ _ _⟩
  · subst h0
    subst hr
    subst hs
    obtain ⟨hA, hri⟩ := hri hn
    have HA := hidq hA
    have RI := hidq hri
    rw [if_pos rfl, if_neg (by decide)]
    clear hn hri hA
    go_enter Tryd.func15, Tryd.ntmps15
    go_wp2_with (first | (go_at_call 27; refine (WC.out _ U0.out).mono ?_; rintro e w1 ⟨v1, rfl, ho1, hb1⟩; obtain ⟨a1, k1, rfl, _⟩ := own_formq ho1; have I1 := hidq (Sl.of_own (E := elInt) ho1 FI.out); have XW := XZ.out.below hb1; obtain ⟨c0, c1, c2, c3, c4, c5, c6, c7, c8⟩ := XW.cells; obtain ⟨f0, f1, f2, f3, f4, f5, f6, f7, f8⟩ := XW.frozen; have XZ1 := hidq XW; have XL1 := hidq (XL.out.below hb1); have XA1 := hidq (XA.out.below hb1); have U1 := hidq (U0.out.below hb1); have K1 := hidq (K0.out.below hb1); have B1 := hidq (below_trans B0.out hb1); clear ho1 hb1 XW) | (go_at_call 18; clear T1; refine (has_e1 _ _ _ _ _ I1.out (fun X hX x hx => eval1_any HA.out (RI.out x hx).1 (RI.out x hx).2 rfl X (XL1.out.below hX) (U1.out.below hX)) _ R1.out).mono ?_; rintro e w2 ⟨rfl, hb2⟩; have I2 := hidq (I1.out.below hb2); have XW := XZ1.out.below hb2; obtain ⟨c0, c1, c2, c3, c4, c5, c6, c7, c8⟩ := XW.cells; obtain ⟨f0, f1, f2, f3, f4, f5, f6, f7, f8⟩ := XW.frozen; have XZ2 := hidq XW; have XL2 := hidq (XL1.out.below hb2); have XA2 := hidq (XA1.out.below hb2); have U2 := hidq (U1.out.below hb2); have K2 := hidq (K1.out.below hb2); have B2 := hidq (below_trans B1.out hb2); clear hb2 XW) | (go_at_call 18; refine (has_e2 _ _ _ _ _ _ I2.out (fun X hX x hx => eval2_any (RI.out x hx).1 (RI.out x hx).2 rfl X (XL2.out.below hX) (XA2.out.below hX) (U2.out.below hX)) _ R2.out).mono ?_; rintro e w3 ⟨rfl, hb3⟩; have I3 := hidq (I2.out.below hb3); have XW := XZ2.out.below hb3; obtain ⟨c0, c1, c2, c3, c4, c5, c6, c7, c8⟩ := XW.cells; obtain ⟨f0, f1, f2, f3, f4, f5, f6, f7, f8⟩ := XW.frozen; have XZ3 := hidq XW; have XL3 := hidq (XL2.out.below hb3); have XA3 := hidq (XA2.out.below hb3); have U3 := hidq (U2.out.below hb3); have K3 := hidq (K2.out.below hb3); have B3 := hidq (below_trans B2.out hb3); clear hb3 XW))
    refine bodyPost_ret (v := .tuple #[.agg #[.bool _, .bool _, .int .u64 _, .int .u64 _, .int .u64 _, .int .u64 _, .int .u64 _, .int .u64 _, .int .i64 _], .int .i64 _]) (by simp [results, go_sem, c0, c1, c2, c3, c4, c5, c6, c7, c8, Tryd.results15]) rfl ⟨rfl, below_set9 B3.out (by omega) _ _ _ _ _ _ _ _ _⟩
end Go.Proofs.YtomhccendbnamaaDoor
namespace Go.Proofs.YtomhccendbnamaaDoor
open Go.RowKit
theorem M.within_win {A : List M.Tm} {i : Int} (h : M.deepE A i = 0) : M.Ok A ∧ i.toNat < A.length ∧ 0 ≤ i ∧ M.Win A i.toNat (M.withinL A i) ∧ (M.withinL A i).Pairwise (· < ·) := by
  unfold M.deepE at h
  by_cases ht : M.thr A i = true
  · obtain ⟨hA, t0, t1⟩ := M.thr_iff.1 ht
    have e : M.withinL A i = M.outL (M.rkB A i.toNat 0) (i.toNat + 1) := by unfold M.withinL; rw [if_pos ht]
    rw [e]
    exact ⟨hA, by omega, t0, M.win_within hA (by omega), M.outL_rising _ _⟩
  · rw [if_neg ht] at h; cases h
set_option maxRecDepth 100000 in
set_option maxHeartbeats 8000000 in
theorem eval_ok {A : List M.Tm} {i : Int} {T : List M.Blk} {x : M.Val} (hn : M.deepE A i = 0) (h1 : (M.withinL A i).any (fun k => M.usesS A (M.at_ A k.toNat)) = false) (h2 : (M.withinL A i).any (fun k => M.noBlk T.length (M.at_ A k.toNat)) = false) (hx : M.ev A T i.toNat = x) {vl va : Value} (w : World) (u : Ts w vl A) (ua : Bks w va T) :
    Calls Tryd.prog 15 #[vl, .int .i64 i, va] w fun e w' => e = .returned (.tuple #[(.agg #[.bool x.1, .bool x.2.1, .int .u64 (M.nu x.2.2.1.1), .int .u64 (M.nu x.2.2.1.2), .int .u64 (M.nu x.2.2.2.1.1.1), .int .u64 (M.nu x.2.2.2.1.1.2), .int .u64 (M.nu x.2.2.2.1.2.1), .int .u64 (M.nu x.2.2.2.1.2.2), .int .i64 x.2.2.2.2]), .int .i64 0]) ∧ Below w.heap.size w w' := by
  obtain ⟨hA0, hm0, hi0, hWin, hRise⟩ := M.within_win hn
  have hFit := hidq u.oks
  obtain ⟨ab, cb, rfl, _, _, _⟩ := ua.form
  obtain ⟨ao, cl, rfl, _, _, _⟩ := u.form
  have XZ := hidq (zbox ((w.alloc (.cells #[(.slice ao A.length cl)] 22)).alloc (.cells #[.slice ab T.length cb] 50)))
  rw [World.size_alloc, World.size_alloc] at XZ
  have XL := hidq (((Bx1.new w (.slice ao A.length cl) 22).alloc (.cells #[.slice ab T.length cb] 50)).alloc (.cells #[.bool false, .bool false, .int .u64 0, .int .u64 0, .int .u64 0, .int .u64 0, .int .u64 0, .int .u64 0, .int .i64 0] 29))
  have XA := hidq ((Bx1.new (w.alloc (.cells #[(.slice ao A.length cl)] 22)) (.slice ab T.length cb) 50).alloc (.cells #[.bool false, .bool false, .int .u64 0, .int .u64 0, .int .u64 0, .int .u64 0, .int .u64 0, .int .u64 0, .int .i64 0] 29))
  rw [World.size_alloc] at XA
  have U0 := hidq (((u.alloc (.cells #[(.slice ao A.length cl)] 22)).alloc (.cells #[.slice ab T.length cb] 50)).alloc (.cells #[.bool false, .bool false, .int .u64 0, .int .u64 0, .int .u64 0, .int .u64 0, .int .u64 0, .int .u64 0, .int .i64 0] 29))
  have K0 := hidq (((ua.alloc (.cells #[(.slice ao A.length cl)] 22)).alloc (.cells #[.slice ab T.length cb] 50)).alloc (.cells #[.bool false, .bool false, .int .u64 0, .int .u64 0, .int .u64 0, .int .u64 0, .int .u64 0, .int .u64 0, .int .i64 0] 29))
  have B0 := hidq (show Below w.heap.size w (((w.alloc (.cells #[(.slice ao A.length cl)] 22)).alloc (.cells #[.slice ab T.length cb] 50)).alloc (.cells #[.bool false, .bool false, .int .u64 0, .int .u64 0, .int .u64 0, .int .u64 0, .int .u64 0, .int .u64 0, .int .i64 0] 29)) from below_one (below_one (below_one (Below.refl _ _))))
  obtain ⟨I, hI⟩ : ∃ I, M.withinL A i = I := ⟨_, rfl⟩
  rw [hI] at h1 h2
  have WC := hidq (fun W (u : Ts W (.slice ao A.length cl) A) => within_eq hI hn W u)
  have hri : M.deepE A i = 0 → M.Ok A ∧ ∀ x ∈ I, 0 ≤ x ∧ x < (A.length : Int) := fun h0 => by
    unfold M.deepE at h0
    by_cases ht : M.thr A i = true
    · obtain ⟨hA, t0, t1⟩ := M.thr_iff.1 ht
      refine ⟨hA, fun x hx => ?_⟩
      rw [← hI] at hx
      unfold M.withinL at hx
      rw [if_pos ht] at hx
      obtain ⟨j, hj, _, rfl⟩ := (M.outL_mem _ _ _).1 hx
      omega
    · rw [if_neg ht] at h0; cases h0
  have FI : Hid (∀ x ∈ I, elInt.ok x) := fun x hx => by
    rw [← hI] at hx
    unfold M.withinL at hx
    by_cases ht : M.thr A i = true
    · obtain ⟨hA, t0, t1⟩ := M.thr_iff.1 ht
      have := hA.1
      rw [if_pos ht] at hx
      obtain ⟨j, hj, _, rfl⟩ := (M.outL_mem _ _ _).1 hx
      exact show M.fitI _ from ⟨by omega, by omega⟩
    · rw [if_neg ht] at hx; cases hx
  have R1 := hidq h1
  have R2 := hidq h2
  have T1 := hidq trivial
  rw [hI] at hWin hRise
  obtain ⟨hA, hri⟩ := hri hn
  have HA := hidq hA
  have RI := hidq hri
  have WN := hidq hWin
  have RS := hidq hRise
  have HX := hidq hx
  obtain ⟨m, rfl⟩ : ∃ m : Nat, i = m := ⟨i.toNat, by omega⟩
  rw [Int.toNat_natCast] at WN HX hm0
  have HM := hidq hm0
  have hmk := run_makeMapV
  have FM := hidq (show M.fitI (m : Int) from ⟨by omega, by have := hA.1; omega⟩)
  have AT : Hid (∀ k ∈ I, (M.at_ A k.toNat).1 = 1 → (M.at_ A k.toNat).2.1 < (T.length : Int)) := fun k hk hk1 => by
    have := List.any_eq_false.1 h2 k hk
    unfold M.noBlk at this
    simp only [hk1, decide_true, Bool.true_and, decide_eq_true_eq] at this
    omega
  have hIl : I.length ≤ 65536 := by have := hWin.2.1; have := hA.1; omega
  have H16 := hidq hA.1
  clear hI h1 h2 u ua hn hri hA hWin hRise hx hA0 hi0
  generalize hnI : I.length = nI at *
  have HNI := hidq hnI
  clear hnI
  go_enter Tryd.func15, Tryd.ntmps15
  go_wp2_with (first | (go_at_call 27; refine (WC.out _ U0.out).mono ?_; rintro e w1 ⟨v1, rfl, ho1, hb1⟩; obtain ⟨a1, k1, rfl, _⟩ := own_formq ho1; have I1 := hidq (Sl.of_own (E := elInt) ho1 FI.out); have XW := XZ.out.below hb1; obtain ⟨c0, c1, c2, c3, c4, c5, c6, c7, c8⟩ := XW.cells; obtain ⟨f0, f1, f2, f3, f4, f5, f6, f7, f8⟩ := XW.frozen; have XZ1 := hidq XW; have XL1 := hidq (XL.out.below hb1); have XA1 := hidq (XA.out.below hb1); have U1 := hidq (U0.out.below hb1); have K1 := hidq (K0.out.below hb1); have B1 := hidq (below_trans B0.out hb1); clear ho1 hb1 XW) | (go_at_call 18; clear T1; refine (has_e1 _ _ _ _ _ I1.out (fun X hX x hx => eval1_any HA.out (RI.out x hx).1 (RI.out x hx).2 rfl X (XL1.out.below hX) (U1.out.below hX)) _ R1.out).mono ?_; rintro e w2 ⟨rfl, hb2⟩; have I2 := hidq (I1.out.below hb2); have XW := XZ1.out.below hb2; obtain ⟨c0, c1, c2, c3, c4, c5, c6, c7, c8⟩ := XW.cells; obtain ⟨f0, f1, f2, f3, f4, f5, f6, f7, f8⟩ := XW.frozen; have XZ2 := hidq XW; have XL2 := hidq (XL1.out.below hb2); have XA2 := hidq (XA1.out.below hb2); have U2 := hidq (U1.out.below hb2); have K2 := hidq (K1.out.below hb2); have B2 := hidq (below_trans B1.out hb2); clear hb2 XW) | (go_at_call 18; refine (has_e2 _ _ _ _ _ _ I2.out (fun X hX x hx => eval2_any (RI.out x hx).1 (RI.out x hx).2 rfl X (XL2.out.below hX) (XA2.out.below hX) (U2.out.below hX)) _ R2.out).mono ?_; rintro e w3 ⟨rfl, hb3⟩; have I3 := hidq (I2.out.below hb3); have XW := XZ2.out.below hb3; obtain ⟨c0, c1, c2, c3, c4, c5, c6, c7, c8⟩ := XW.cells; obtain ⟨f0, f1, f2, f3, f4, f5, f6, f7, f8⟩ := XW.frozen; have XZ3 := hidq XW; have XL3 := hidq (XL2.out.below hb3); have XA3 := hidq (XA2.out.below hb3); have U3 := hidq (U2.out.below hb3); have K3 := hidq (K2.out.below hb3); have B3 := hidq (below_trans B2.out hb3); clear hb3 XW))
  clear c0 c1 c2 c3 c4 c5 c6 c7 c8 f0 f1 f2 f3 f4 f5 f6 f7 f8
  go_loopw [40] (fun x wr => ∃ q : Nat, q ≤ nI ∧ x = .int .i64 q ∧ MpV wr w3.heap.size (M.evK A T I q) ∧ Below w3.heap.size w3 wr) (fun x _ => nI - (intOf x).toNat)
  case atStart => exact ⟨0, by omega, rfl, MpV.new w3, below_one (Below.refl _ _)⟩
  case round =>
    obtain ⟨q, hq, rfl, hmp, hbw⟩ := hrel
    have MP := hidq hmp
    have BW := hidq hbw
    clear hmp hbw
    by_cases hlt : q < nI
    · obtain ⟨k, hk⟩ : ∃ k, I[q]? = some k := ⟨_, List.getElem?_eq_getElem (by rw [HNI.out]; exact hlt)⟩
      obtain ⟨r0, r1⟩ := RI.out k (List.mem_of_getElem? hk)
      obtain ⟨j, rfl⟩ : ∃ j : Nat, k = j := ⟨k.toNat, by omega⟩
      have hj : j < A.length := by omega
      have I4 := I3.out.below BW.out
      have U4 := U3.out.below BW.out
      obtain ⟨bI, oI, rfl⟩ : ∃ b off, a1 = some ⟨b, off, none⟩ := by
        obtain ⟨aa, cc, e, p1, _, p3⟩ := I4.form
        rw [HNI.out] at e p1
        simp only [Value.slice.injEq] at e
        obtain ⟨rfl, _, rfl⟩ := e
        exact p3 (by omega)
      obtain ⟨bl, ol, rfl⟩ : ∃ b off, ao = some ⟨b, off, none⟩ := by
        obtain ⟨aa, cc, e, p1, _, p3⟩ := U4.form
        simp only [Value.slice.injEq] at e
        obtain ⟨rfl, _, rfl⟩ := e
        exact p3 (by omega)
      have ci := Is.cellv I4 hk
      obtain ⟨τ, hτ⟩ : ∃ τ, M.at_ A j = τ := ⟨_, rfl⟩
      obtain ⟨x1, x2, x3⟩ := Ts.cell U4 hj
      rw [hτ] at x1 x2 x3
      have dl := (XL3.out.below BW.out).cell
      have da := (XA3.out.below BW.out).cell
      have hmay := (HA.out.2 j hj).1
      have hse := M.step_ev HA.out (T := T) HM.out WN.out RS.out hk hj
      rw [hτ] at hmay hse
      obtain ⟨y, hy⟩ : ∃ y, M.ev A T j = y := ⟨_, rfl⟩
      rw [hy] at hse
      have hatom : τ.1 = 1 → 0 ≤ τ.2.1 ∧ τ.2.1 < (T.length : Int) := fun h1 => by
        refine ⟨?_, ?_⟩
        · rcases M.may_kind hmay with h | h | h <;> omega
        · have := AT.out (j : Int) (List.mem_of_getElem? hk) (by rw [Int.toNat_natCast, hτ]; exact h1)
          rw [Int.toNat_natCast, hτ] at this
          exact this
      have CO := hidq (fun W (ub : Bks W (.slice ab T.length cb) T) (mp : MpV W w3.heap.size (M.evK A T I q)) => comesOf_eq (M.may_kinds hmay) (by rw [← hτ]; exact hFit.out _ (M.at_mem hj)) (fun p hp => (M.parts_ahead hmay p hp).1) hatom hse W ub mp)
      have HN := hidq ((vfind_map (fun k => M.ev A T k.toNat) (j : Int) (I.take q)).2 (M.rise_new RS.out hk))
      have FJ := hidq (show M.fitI (j : Int) from ⟨by omega, by have := H16.out; omega⟩)
      have HS := hidq (M.evK_succ (A := A) (T := T) hk)
      rw [Int.toNat_natCast, hy] at HS
      have KW := hidq (K3.out.below BW.out)
      have s3 := BW.out.size
      have q0 : (0 : Int) ≤ q := by omega
      have kc : ¬ k1 = 0 := by
        obtain ⟨aa, cc, e, p1, _, p3⟩ := I4.form
        rw [HNI.out] at e p1
        simp only [Value.slice.injEq] at e
        obtain ⟨_, _, rfl⟩ := e
        omega
      have j0 : (0 : Int) ≤ j := by omega
      have lc : ¬ cl = 0 := by
        obtain ⟨aa, cc, e, p1, _, p3⟩ := U4.form
        simp only [Value.slice.injEq] at e
        obtain ⟨_, _, rfl⟩ := e
        omega
      have HT := hidq hτ
      have HJ := hidq hj
      clear hk hτ hmay hse hatom I4 U4 hy
      go_upto_region 14 with fail
      have MD : Hid (MpV wr.drew w3.heap.size (M.evK A T I q)) := MP.out
      have BD := hidq (below_d1 BW.out)
      go_region_held3 (fun X => X.cell? ⟨w.heap.size, 0, none⟩ = some (.slice (some ⟨bl, ol, none⟩) A.length cl) ∧ X.cell? ⟨w.heap.size + 1, 0, none⟩ = some (.slice ab T.length cb) ∧ X.cell? ⟨bl, ol + j * 3, none⟩ = some (.int .i64 τ.1) ∧ X.cell? ⟨bl, ol + j * 3 + 1, none⟩ = some (.int .i64 τ.2.1) ∧ X.cell? ⟨bl, ol + j * 3 + 2, none⟩ = some (.int .i64 τ.2.2)) (go_keep)
        (first | (go_at_call 31; refine (CO.out _ KW.out.drew MD.out).mono ?_; rintro e w5 ⟨rfl, hb5⟩; have M5 := MD.out.below hb5; obtain ⟨w6, hst, m6, g6⟩ := run_storeV (j : Int) FJ.out y M5 HN.out; unfold valV at hst; have B5 := below_trans BD.out hb5; have dl5 := (XL3.out.below B5).cell; have da5 := (XA3.out.below B5).cell; obtain ⟨t1, t2, t3⟩ := Ts.cell (U3.out.below B5) HJ.out; rw [HT.out] at t1 t2 t3; have P6 := hidq m6; have B6 := hidq ((below_trans BD.out hb5).grown g6 (below_trans BD.out hb5).size (fun b hb => by cases hb; exact Nat.le_refl _)); have dl6 := (XL3.out.below B6.out).cell; have da6 := (XA3.out.below B6.out).cell; obtain ⟨s1, s2, s3⟩ := Ts.cell (U3.out.below B6.out) HJ.out; rw [HT.out] at s1 s2 s3; clear m6 g6 hb5 M5 B5))
      go_wp2
      go_roundw
      case rel => exact ⟨q + 1, by omega, by go_num, by rw [HS.out]; exact P6.out, B6.out⟩
      case measure => simp [intOf]; omega
    · obtain rfl : q = nI := by omega
      have hlk : M.lk (M.evK A T I q) (m : Int) = x := by
        have hmem : (m : Int) ∈ I := List.mem_of_getElem? WN.out.2.2.1
        unfold M.evK
        rw [List.take_of_length_le (by rw [HNI.out]; exact Nat.le_refl _), lk_map (f := fun k => M.ev A T k.toNat) hmem, Int.toNat_natCast]
        exact HX.out
      have hlook := run_lookW (m : Int) FM.out hlk MP.out
      have XW := XZ3.out.below BW.out
      obtain ⟨c0, c1, c2, c3, c4, c5, c6, c7, c8⟩ := XW.cells; obtain ⟨f0, f1, f2, f3, f4, f5, f6, f7, f8⟩ := XW.frozen
      have BZ := hidq (below_trans B3.out BW.out)
      clear XW hlk
      go_wp2
      refine bodyPost_ret (v := .tuple #[.agg #[.bool _, .bool _, .int .u64 _, .int .u64 _, .int .u64 _, .int .u64 _, .int .u64 _, .int .u64 _, .int .i64 _], .int .i64 _]) (by simp [results, go_sem, c0, c1, c2, c3, c4, c5, c6, c7, c8, Tryd.results15]) rfl ⟨rfl, below_set9 BZ.out (by omega) _ _ _ _ _ _ _ _ _⟩
set_option maxRecDepth 100000 in
theorem eval7_eq {A : List M.Tm} {i : Int} {T : List M.Blk} {x : M.Val} {n : Int} (hx : M.evalV A i T = x) (hn : M.evalE A i T.length = n) {vl va : Value} (w : World) (u : Ts w vl A) (ua : Bks w va T) :
    Calls Tryd.prog 15 #[vl, .int .i64 i, va] w fun e w' => e = .returned (.tuple #[(.agg #[.bool x.1, .bool x.2.1, .int .u64 (M.nu x.2.2.1.1), .int .u64 (M.nu x.2.2.1.2), .int .u64 (M.nu x.2.2.2.1.1.1), .int .u64 (M.nu x.2.2.2.1.1.2), .int .u64 (M.nu x.2.2.2.1.2.1), .int .u64 (M.nu x.2.2.2.1.2.2), .int .i64 x.2.2.2.2]), .int .i64 n]) ∧ Below w.heap.size w w' := by
  unfold M.evalV at hx
  rw [hn] at hx
  unfold M.evalE at hn
  obtain ⟨d, hd⟩ : ∃ d, M.deepE A i = d := ⟨_, rfl⟩
  obtain ⟨r1, h1⟩ : ∃ r, (M.withinL A i).any (fun k => M.usesS A (M.at_ A k.toNat)) = r := ⟨_, rfl⟩
  obtain ⟨r2, h2⟩ : ∃ r, (M.withinL A i).any (fun k => M.noBlk T.length (M.at_ A k.toNat)) = r := ⟨_, rfl⟩
  rw [hd, h1, h2] at hn
  by_cases d0 : d = 0
  · rw [if_pos d0] at hn
    cases r1 with
    | true =>
      rw [if_pos rfl] at hn
      subst hn
      rw [if_neg (by decide)] at hx
      have := eval_err (n := d) hd h1 h2 (.inr (.inl ⟨d0, rfl⟩)) w u ua
      rw [if_pos d0, if_pos rfl] at this
      subst hx
      exact this
    | false =>
      rw [if_neg (by decide)] at hn
      cases r2 with
      | true =>
        rw [if_pos rfl] at hn
        subst hn
        rw [if_neg (by decide)] at hx
        have := eval_err (n := d) hd h1 h2 (.inr (.inr ⟨d0, rfl, rfl⟩)) w u ua
        rw [if_pos d0, if_neg (by decide)] at this
        subst hx
        exact this
      | false =>
        rw [if_neg (by decide)] at hn
        subst hn
        rw [if_pos rfl] at hx
        exact eval_ok (hd.trans d0) h1 h2 hx w u ua
  · rw [if_neg d0] at hn
    subst hn
    rw [if_neg d0] at hx
    have := eval_err (n := d) hd h1 h2 (.inl d0) w u ua
    rw [if_neg d0] at this
    subst hx
    exact this
end Go.Proofs.YtomhccendbnamaaDoor
