/-
  What the document's own known comes to: all that is known, rising. Conditions: each theorem's own premises.
-/
import Derived.Test.YthkkclhjpgkhaaaV2
import Derived.Test.YthkkclhjpgkhaaaY0
import Derived.Test.YthkkclhjpgkhaaaT10
namespace Go.Proofs.Ythkkclhjpgkhaaa
open Go.RowKit
def lenV : Value → Nat
  | .slice _ n _ => n
  | _ => 0
def bitV : Value → Nat
  | .bool true => 1
  | _ => 0
namespace M
/-- what is gathered, all of it known -/
def KI (A : List Tm) (H : List Int) (n : Nat) (S : List Int) : Prop := (∃ E, S = H ++ E ∧ Gd n E) ∧ ∀ x ∈ S, Kn A H x
theorem KI.start (A : List Tm) (H : List Int) (n : Nat) : KI A H n H := ⟨⟨[], by simp, Gd.nil n⟩, fun _ h => .base h⟩
theorem KI.len {A : List Tm} {H S : List Int} {n : Nat} (h : KI A H n S) : S.length ≤ H.length + n := by
  obtain ⟨⟨E, rfl, hE⟩, _⟩ := h
  rw [List.length_append]; have := hE.len; omega
theorem KI.more {A : List Tm} {H S : List Int} {n k : Nat} (hn : A.length = n) (h : KI A H n S) (hk : k < n) (hs : (k : Int) ∉ S) (hf : Fol A (· ∈ S) k) : KI A H n (S ++ [(k : Int)]) := by
  obtain ⟨⟨E, rfl, hE⟩, h2⟩ := h
  refine ⟨⟨E ++ [(k : Int)], by rw [List.append_assoc], ?_⟩, fun x hx => ?_⟩
  · have := hE.lrn1 (i := (k : Int)) ⟨by omega, by omega⟩
    rwa [lrn1_no fun h => hs (List.mem_append_right _ h)] at this
  · rw [List.mem_append, List.mem_singleton] at hx
    rcases hx with hx | rfl
    · exact h2 x hx
    · exact .shut ⟨by omega, by omega⟩ (hf.mono fun y hy => h2 y hy)
theorem KI.lt {A : List Tm} {H S : List Int} {n : Nat} (hH : ∀ x ∈ H, 0 ≤ x ∧ x < (n : Int)) (h : KI A H n S) : ∀ x ∈ S, 0 ≤ x ∧ x < (n : Int) := by
  obtain ⟨⟨E, rfl, hE⟩, _⟩ := h
  intro x hx
  rcases List.mem_append.1 hx with h | h
  · exact hH x h
  · exact hE.2 x h
theorem KI.done {A : List Tm} {H S : List Int} {n : Nat} (hn : A.length = n) (h : KI A H n S) (hs : ∀ j : Nat, j < n → Fol A (· ∈ S) j → (j : Int) ∈ S) (x : Int) : x ∈ S ↔ Kn A H x := by
  refine Kn.eq (fun y hy => ?_) (fun j hj hf => ?_) h.2 x
  · obtain ⟨⟨E, rfl, _⟩, _⟩ := h
    exact List.mem_append_left _ hy
  · obtain ⟨m, rfl⟩ : ∃ m : Nat, j = m := ⟨j.toNat, by have := hj.1; omega⟩
    exact hs m (by have := hj.2; omega) hf
end M
theorem fol_bool (A : List M.Tm) (S : List Int) (p : Int) : ∃ r : Bool, r = true ↔ M.Fol A (· ∈ S) p := by
  classical
  exact ⟨decide (M.Fol A (· ∈ S) p), by simp⟩
theorem is_of_own {W : World} {base : Nat} {v : Value} {L : List Int} {n : Nat} (h : W.ownsRow base 3 1 v L.length (elInt.cells L)) (hn : n ≤ 65536) (hL : ∀ x ∈ L, 0 ≤ x ∧ x < (n : Int)) : Is W v L := Sl.of_own (E := elInt) h fun x hx => by have := hL x hx; exact ⟨by omega, by omega⟩
theorem is_onez (W : World) (g : Nat) (hg : g = W.heap.size) (x : Int) (h : M.fitI x) : Is (W.alloc (.cells #[.int .i64 x] 3)) (.slice (some ⟨g, 0, none⟩) 1 1) [x] := by subst hg; exact Is.one W x h
theorem rfollows_yes {A : List M.Tm} (hA : M.Ok A) {n : Nat} {S : List Int} {p : Nat} (hf : M.Fol A (· ∈ S) p) {v1 v2 : Value} (w : World) (u1 : Ts w v1 A) (u2 : Is w v2 S) (hn : A.length = n) (hS : ∀ x ∈ S, 0 ≤ x ∧ x < (n : Int)) (hp : p < n) :
    Calls Try.prog 35 #[v1, v2, .int .i64 p] w fun e w' => e = .returned (.bool true) ∧ Below w.heap.size w w' := rfollows_any A hA n S p true v1 v2 w u1 u2 hn hS hp ⟨fun _ => hf, fun _ => rfl⟩
theorem rfollows_no {A : List M.Tm} (hA : M.Ok A) {n : Nat} {S : List Int} {p : Nat} (hf : ¬ M.Fol A (· ∈ S) p) {v1 v2 : Value} (w : World) (u1 : Ts w v1 A) (u2 : Is w v2 S) (hn : A.length = n) (hS : ∀ x ∈ S, 0 ≤ x ∧ x < (n : Int)) (hp : p < n) :
    Calls Try.prog 35 #[v1, v2, .int .i64 p] w fun e w' => e = .returned (.bool false) ∧ Below w.heap.size w w' := rfollows_any A hA n S p false v1 v2 w u1 u2 hn hS hp ⟨fun h => by (cases h), fun h => absurd h hf⟩
set_option maxRecDepth 100000 in
set_option maxHeartbeats 8000000 in
theorem rknown_any (A : List M.Tm) (hA : M.Ok A) (n : Nat) (H : List Int) (f : Nat → Bool) (v1 v2 : Value) (w : World) (u1 : Ts w v1 A) (u2 : Is w v2 H) (hn : A.length = n) (hH : ∀ x ∈ H, 0 ≤ x ∧ x < (n : Int)) (hHl : H.length ≤ 65536) (hf : ∀ j : Nat, f j = true ↔ M.Kn A H j) :
    Calls Try.prog 30 #[v1, v2] w fun e w' => ∃ v', e = .returned v' ∧ w'.ownsRow w.heap.size 3 1 v' (M.outL f n).length (elInt.cells (M.outL f n)) ∧ Below w.heap.size w w' := by
  have hl := hA.1
  rw [hn] at hl
  obtain ⟨a1, c1, rfl, _, _, _⟩ := u1.form
  obtain ⟨a2, c2, rfl, _, _, _⟩ := u2.form
  rw [hn] at u1 ⊢
  have U1 := hidq (fun X (hb : Below w.heap.size w X) => u1.below hb)
  have U2 := hidq u2
  have HA := hidq hA
  have HN := hidq hn
  have HH := hidq hH
  have HF := hidq hf
  have HK0 := hidq (M.KI.start A H n)
  clear u1 u2 hA hn hH hf
  go_enter Try.func30, Try.ntmps30
  go_wp2_with (first | (at_builtin; refine wpList_append_sl (E := elInt) rfl _ _ rfl w.heap.size _ _ [] rfl (World.ownsRow_nil _ _ _ _) _ H rfl U2.out (by simp; omega) (Nat.le_refl _) ?_; intro v3 w3 hown3 hgrow3; obtain ⟨ao3, cap3, rfl, _⟩ := own_formq hown3; have OS3 := hidq (show w3.ownsRow w.heap.size 3 1 (.slice ao3 (0 + H.length) cap3) H.length (elInt.cells H) from (by rw [Nat.zero_add, List.nil_append] at hown3; rw [Nat.zero_add]; exact hown3)); have BS3 := hidq ((Below.refl _ _).grown hgrow3 (Nat.le_refl _) (fun q hq => by cases hq) : Below w.heap.size w w3); clear hown3 hgrow3))
  go_loopw [5, 6] (fun x y wr => ∃ (S : List Int) (b : Bool), wr.ownsRow w.heap.size 3 1 x S.length (elInt.cells S) ∧ y = .bool b ∧ M.KI A H n S ∧ (b = false → ∀ j : Nat, j < n → M.Fol A (· ∈ S) j → (j : Int) ∈ S) ∧ Below w.heap.size w wr) (fun x y _ => 2 * (H.length + n - lenV x) + bitV y)
  case atStart => exact ⟨H, true, by rw [Nat.zero_add] at OS3; exact OS3.out, rfl, HK0.out, (fun h => by cases h), BS3.out⟩
  case round =>
    obtain ⟨S0, b, hos, rfl, hki, hsh, hbs⟩ := hrel
    obtain ⟨ao, cap, rfl, _⟩ := own_formq hos
    have OS0 := hidq hos
    have BS0 := hidq hbs
    have HKI := hidq hki
    have hS0 := hki.len
    have HSH := hidq hsh
    clear hos hbs hki hsh OS3 BS3
    cases b with
    | true =>
      go_wp2
      obtain ⟨wo, rfl⟩ : ∃ wo : World, wo = wr := ⟨_, rfl⟩
      go_loopw [15, 5, 6] (fun z x y wr => ∃ (i : Nat) (S : List Int) (b : Bool), i ≤ n ∧ z = .int .i64 i ∧ wr.ownsRow w.heap.size 3 1 x S.length (elInt.cells S) ∧ y = .bool b ∧ M.KI A H n S ∧ (b = false → S.length = S0.length ∧ ∀ j : Nat, j < i → M.Fol A (· ∈ S) j → (j : Int) ∈ S) ∧ (b = true → S0.length < S.length) ∧ Below w.heap.size w wr) (fun z _ _ _ => n - (intOf z).toNat)
      case atStart => exact ⟨0, S0, false, by omega, rfl, OS0.out, rfl, HKI.out, (fun _ => ⟨rfl, fun j hj => by omega⟩), (fun h => by cases h), BS0.out⟩
      case round =>
        obtain ⟨i, S, b, hi, rfl, hos, rfl, hki, hno, hyes, hbs⟩ := hrel
        obtain ⟨ao, cap, rfl, _⟩ := own_formq hos
        have OS := hidq hos
        have BS := hidq hbs
        have HK := hidq hki
        have hSl := hki.len
        have HSL := hidq (hki.lt HH.out)
        have HNO := hidq hno
        have HYE := hidq hyes
        clear hos hbs hki hno hyes
        by_cases hlt : i < n
        · have hin0 : (i : Int) < n := by omega
          have HFI := hidq (show M.fitI (i : Int) from ⟨by omega, by omega⟩)
          obtain ⟨m, hm⟩ : ∃ m, decide ((i : Int) ∈ S) = m := ⟨_, rfl⟩
          have hin := hm
          cases m with
          | true =>
            have HN2 := hidq (show b = false → S.length = S0.length ∧ ∀ j : Nat, j < i + 1 → M.Fol A (· ∈ S) j → (j : Int) ∈ S from fun hb => ⟨(HNO.out hb).1, fun j hj hf => by
              rcases Nat.lt_or_ge j i with h | h
              · exact (HNO.out hb).2 j h hf
              · obtain rfl : j = i := by omega
                exact of_decide_eq_true hm⟩)
            clear hm
            go_wp2_with (first | (go_at_call 31; refine (rin_eq hin _ (is_of_own OS.out hl HSL.out)).mono ?_; rintro rr w5 ⟨rfl, hw5⟩; subst w5))
            go_roundw
            case rel => exact ⟨i + 1, S, b, by omega, by go_num, OS.out, rfl, HK.out, HN2.out, HYE.out, BS.out⟩
            case measure => simp [intOf]; omega
          | false =>
            have HMS := hidq (of_decide_eq_false hm)
            clear hm
            by_cases hfo : M.Fol A (· ∈ S) i
            · have HRF := hidq hfo
              have HKM := hidq (HK.out.more HN.out hlt HMS.out hfo)
              have HLT := hidq (show S0.length < (S ++ [(i : Int)]).length by
                rw [List.length_append, List.length_singleton]
                cases b with
                | true => have := HYE.out rfl; omega
                | false => have := (HNO.out rfl).1; omega)
              clear hfo
              go_wp2_with (first | (go_at_call 31; refine (rin_eq hin _ (is_of_own OS.out hl HSL.out)).mono ?_; rintro rr w5 ⟨rfl, hw5⟩; subst w5) | (go_at_call 35; refine (rfollows_yes HA.out HRF.out _ (U1.out _ BS.out) (is_of_own OS.out hl HSL.out) HN.out HSL.out hlt).mono ?_; rintro rr w6 ⟨rfl, hb6⟩; have OS6 := hidq (own_keptq OS.out hb6); have BS6 := hidq (below_trans BS.out hb6); clear hb6) | (at_builtin; refine wpList_append_sl (E := elInt) rfl _ _ rfl w.heap.size _ _ S rfl (OS6.out.alloc _) _ [(i : Int)] rfl (is_onez _ _ (by simp) _ HFI.out) (by simp only [List.length_cons, List.length_nil]; omega) (by have := BS6.out.size; simp; omega) ?_; intro v7 w7 hown7 hgrow7; obtain ⟨ao7, cap7, rfl, _⟩ := own_formq hown7; have OS7 := hidq (show w7.ownsRow w.heap.size 3 1 (.slice ao7 (S.length + 1) cap7) (S ++ [(i : Int)]).length (elInt.cells (S ++ [(i : Int)])) from (by rw [List.length_append]; exact hown7)); have BS7 := hidq ((below_one (o := .cells #[.int .i64 (i : Int)] 3) BS6.out).grown hgrow7 (by have := BS6.out.size; simp; omega) (fun q hq => (OS6.out.lt q hq).1)); clear hown7 hgrow7))
              go_roundw
              case rel => exact ⟨i + 1, S ++ [(i : Int)], true, by omega, by go_num, OS7.out, rfl, HKM.out, (fun h => by cases h), (fun _ => HLT.out), BS7.out⟩
              case measure => simp [intOf]; omega
            · have HRF := hidq hfo
              have HN2 := hidq (show b = false → S.length = S0.length ∧ ∀ j : Nat, j < i + 1 → M.Fol A (· ∈ S) j → (j : Int) ∈ S from fun hb => ⟨(HNO.out hb).1, fun j hj hf => by
                rcases Nat.lt_or_ge j i with h | h
                · exact (HNO.out hb).2 j h hf
                · obtain rfl : j = i := by omega
                  exact absurd hf hfo⟩)
              clear hfo
              go_wp2_with (first | (go_at_call 31; refine (rin_eq hin _ (is_of_own OS.out hl HSL.out)).mono ?_; rintro rr w5 ⟨rfl, hw5⟩; subst w5) | (go_at_call 35; refine (rfollows_no HA.out HRF.out _ (U1.out _ BS.out) (is_of_own OS.out hl HSL.out) HN.out HSL.out hlt).mono ?_; rintro rr w6 ⟨rfl, hb6⟩; have OS6 := hidq (own_keptq OS.out hb6); have BS6 := hidq (below_trans BS.out hb6); clear hb6))
              go_roundw
              case rel => exact ⟨i + 1, S, b, by omega, by go_num, OS6.out, rfl, HK.out, HN2.out, HYE.out, BS6.out⟩
              case measure => simp [intOf]; omega
        · obtain rfl : i = n := by omega
          go_wp2
          go_roundw
          case rel => exact ⟨S, b, OS.out, rfl, HK.out, fun hb => (HNO.out hb).2, BS.out⟩
          case measure =>
            cases b with
            | true => have := HYE.out rfl; simp [lenV, bitV]; omega
            | false => have := (HNO.out rfl).1; simp [lenV, bitV]; omega
    | false =>
      have HD := hidq (HKI.out.done HN.out (HSH.out rfl))
      have HSL := hidq (HKI.out.lt HH.out)
      have hB5 := BS0.out.size
      go_wp2
      generalize hB5e : wr.heap.size = B5 at *
      obtain ⟨wo, rfl⟩ : ∃ wo : World, wo = wr := ⟨_, rfl⟩
      have HB5e := hidq hB5e
      clear hB5e
      have HFS := hidq (fun k : Nat => show f k = true ↔ (k : Int) ∈ S0 from (HF.out k).trans (HD.out k).symm)
      go_loopw [35, 8] (fun x y wr => ∃ k : Nat, k ≤ n ∧ x = .int .i64 k ∧ wr.ownsRow B5 3 1 y (M.outL f k).length (elInt.cells (M.outL f k)) ∧ wr.ownsRow w.heap.size 3 1 (.slice ao S0.length cap) S0.length (elInt.cells S0) ∧ Below w.heap.size w wr ∧ B5 ≤ wr.heap.size ∧ (∀ q, (Value.slice ao S0.length cap).ownBlock = some q → q < B5)) (fun x _ _ => n - (intOf x).toNat)
      case atStart => exact ⟨0, by omega, rfl, World.ownsRow_nil _ _ _ _, OS0.out, BS0.out, by have := HB5e.out; omega, fun q hq => by have := (OS0.out.lt q hq).2; have := HB5e.out; omega⟩
      case round =>
        obtain ⟨k, hk, rfl, ho5, hw5, hb5, hs5, hq5⟩ := hrel
        have HO5 := hidq ho5
        have HW5 := hidq hw5
        have HB5 := hidq hb5
        have HQ5 := hidq hq5
        clear ho5 hw5 hb5 hq5
        by_cases hlt : k < n
        · have hol := M.outL_len f k
          have hki : (k : Int) < n := by omega
          have HFI := hidq (show M.fitI (k : Int) from ⟨by omega, by omega⟩)
          cases hfk : f k with
          | true =>
            have hin : decide ((k : Int) ∈ S0) = true := decide_eq_true ((HFS.out k).1 hfk)
            have HOY := hidq (M.outL_yes f k hfk)
            clear hfk
            go_wp2_with (first | (go_at_call 31; refine (rin_eq hin _ (is_of_own HW5.out hl HSL.out)).mono ?_; rintro rr w5 ⟨rfl, hw5⟩; subst w5) | (at_builtin; refine wpList_append_sl (E := elInt) rfl _ _ rfl B5 _ _ (M.outL f k) rfl (HO5.out.alloc _) _ [(k : Int)] rfl (is_onez _ _ (by simp) _ HFI.out) (by simp only [List.length_cons, List.length_nil]; omega) (by simp; omega) ?_; intro v6 w6 hown6 hgrow6; have hgr6 : (wr.alloc (.cells #[.int .i64 k] 3)).grownBy w6 u8.ownBlock := hgrow6; have HM6 := hidq ((HW5.out.alloc (.cells #[.int .i64 k] 3)).kept hgr6 (by cases hob : (Value.slice ao S0.length cap).ownBlock with | none => exact .inl rfl | some q => exact .inr fun e => by have := (HO5.out.lt q e.symm).1; have := HQ5.out q hob; omega)); have HB6 := hidq ((below_one (o := .cells #[.int .i64 k] 3) HB5.out).grown hgr6 (by have := HB5.out.size; simp; omega) (fun q hq => by have := (HO5.out.lt q hq).1; omega)); have hs6 : B5 ≤ w6.heap.size := (by have := hgr6.size; simp at this; omega); have HO6 := hidq hown6; clear hown6 hgrow6 hgr6))
            go_roundw
            case rel => exact ⟨k + 1, by omega, by go_num, by rw [HOY.out, List.length_append]; exact HO6.out, HM6.out, HB6.out, hs6, HQ5.out⟩
            case measure => simp [intOf]; omega
          | false =>
            have hin : decide ((k : Int) ∈ S0) = false := decide_eq_false fun h => by have := (HFS.out k).2 h; rw [hfk] at this; cases this
            have HOY := hidq (M.outL_no f k hfk)
            clear hfk
            go_wp2_with (first | (go_at_call 31; refine (rin_eq hin _ (is_of_own HW5.out hl HSL.out)).mono ?_; rintro rr w5 ⟨rfl, hw5⟩; subst w5))
            go_roundw
            case rel => exact ⟨k + 1, by omega, by go_num, by rw [HOY.out]; exact HO5.out, HW5.out, HB5.out, hs5, HQ5.out⟩
            case measure => simp [intOf]; omega
        · obtain rfl : k = n := by omega
          go_wp2
          go_ret
          exact ⟨_, rfl, own_lowq HO5.out (by omega), HB5.out⟩
end Go.Proofs.Ythkkclhjpgkhaaa
