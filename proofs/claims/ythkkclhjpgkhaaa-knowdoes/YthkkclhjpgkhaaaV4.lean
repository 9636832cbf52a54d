/-
  What the document's own All, Knows, Shut and Is come to. Conditions: each theorem's own premises.
-/
import Derived.Test.YthkkclhjpgkhaaaV3
import Derived.Test.YthkkclhjpgkhaaaY12
import Derived.Test.YthkkclhjpgkhaaaY9
namespace Go.Proofs.Ythkkclhjpgkhaaa
open Go.RowKit
theorem M.plsB_okL {A : List M.Tm} {L : List Int} : M.plsB A L = true ↔ M.Ok A ∧ M.okL A L := M.plsB_iff
theorem M.plsB_not {A : List M.Tm} {L : List Int} (h : ¬ (M.Ok A ∧ M.okL A L)) : M.plsB A L = false := by
  cases e : M.plsB A L with
  | false => rfl
  | true => exact absurd (M.plsB_okL.1 e) h
/-- the answers of All, Knows, Shut and Is -/
def AllA (A : List M.Tm) (H L : List Int) (er : Int) : Prop := (er = 0 ∧ M.Ok A ∧ M.okL A H ∧ ∃ f : Nat → Bool, (∀ j : Nat, f j = true ↔ M.Kn A H j) ∧ L = M.outL f A.length) ∨ (er = 1 ∧ ¬ (M.Ok A ∧ M.okL A H) ∧ L = [])
def KnwA (A : List M.Tm) (H : List Int) (i : Int) (r : Bool) (er : Int) : Prop := (er = 0 ∧ M.Ok A ∧ M.okL A H ∧ M.Pl A i ∧ (r = true ↔ M.Kn A H i)) ∨ (er = 1 ∧ ¬ (M.Ok A ∧ M.okL A H ∧ M.Pl A i) ∧ r = false)
def ShtA (A : List M.Tm) (S : List Int) (r : Bool) (er : Int) : Prop := (er = 0 ∧ M.Ok A ∧ M.okL A S ∧ (r = true ↔ M.Sht A S)) ∨ (er = 1 ∧ ¬ (M.Ok A ∧ M.okL A S) ∧ r = false)
def ChnA (A : List M.Tm) (H L : List Int) (r : Bool) (er : Int) : Prop := (er = 0 ∧ M.Ok A ∧ M.okL A H ∧ M.okL A L ∧ (r = true ↔ M.Chn A H L)) ∨ (er = 1 ∧ ¬ (M.Ok A ∧ M.okL A H ∧ M.okL A L) ∧ r = false)
theorem allA (A : List M.Tm) (H : List Int) : ∃ L er, AllA A H L er := by
  by_cases h : M.Ok A ∧ M.okL A H
  · obtain ⟨f, hf⟩ := M.kn_fun A H
    exact ⟨_, 0, .inl ⟨rfl, h.1, h.2, f, hf, rfl⟩⟩
  · exact ⟨[], 1, .inr ⟨rfl, h, rfl⟩⟩
theorem knwA (A : List M.Tm) (H : List Int) (i : Int) : ∃ r er, KnwA A H i r er := by
  classical
  by_cases h : M.Ok A ∧ M.okL A H ∧ M.Pl A i
  · exact ⟨decide (M.Kn A H i), 0, .inl ⟨rfl, h.1, h.2.1, h.2.2, by simp⟩⟩
  · exact ⟨false, 1, .inr ⟨rfl, h, rfl⟩⟩
theorem shtA (A : List M.Tm) (S : List Int) : ∃ r er, ShtA A S r er := by
  classical
  by_cases h : M.Ok A ∧ M.okL A S
  · exact ⟨decide (M.Sht A S), 0, .inl ⟨rfl, h.1, h.2, by simp⟩⟩
  · exact ⟨false, 1, .inr ⟨rfl, h, rfl⟩⟩
theorem chnA (A : List M.Tm) (H L : List Int) : ∃ r er, ChnA A H L r er := by
  classical
  by_cases h : M.Ok A ∧ M.okL A H ∧ M.okL A L
  · exact ⟨decide (M.Chn A H L), 0, .inl ⟨rfl, h.1, h.2.1, h.2.2, by simp⟩⟩
  · exact ⟨false, 1, .inr ⟨rfl, h, rfl⟩⟩
/-- the program's, in one form -/
theorem kall_any {A : List M.Tm} {H L : List Int} {er : Int} (h : AllA A H L er) {v1 v2 : Value} (w : World) (u1 : Ts w v1 A) (u2 : Is w v2 H) :
    Calls Try.prog 12 #[v1, v2] w fun e w' => ∃ v', e = .returned (.tuple #[v', .int .i64 er]) ∧ w'.ownsRow w.heap.size 3 1 v' L.length (elInt.cells L) ∧ Below w.heap.size w w' := by
  rcases h with ⟨rfl, h1, h2, f, hf, rfl⟩ | ⟨rfl, h, rfl⟩
  · exact all_ok h1 h2 hf w u1 u2
  · exact (all_no h w u1 u2).mono fun e w' h => ⟨_, h.1, World.ownsRow_nil _ _ _ _, h.2⟩
theorem kknows_any {A : List M.Tm} {H : List Int} {i : Int} (hf : M.fitI i) {r : Bool} {er : Int} (h : KnwA A H i r er) {v1 v2 : Value} (w : World) (u1 : Ts w v1 A) (u2 : Is w v2 H) :
    Calls Try.prog 14 #[v1, v2, .int .i64 i] w fun e w' => e = .returned (.tuple #[.bool r, .int .i64 er]) ∧ Below w.heap.size w w' := by
  rcases h with ⟨rfl, h1, h2, h3, hr⟩ | ⟨rfl, h, rfl⟩
  · exact knows_ok h1 h2 h3 hr w u1 u2
  · exact knows_no hf h w u1 u2
theorem kshut_any {A : List M.Tm} {S : List Int} {r : Bool} {er : Int} (h : ShtA A S r er) {v1 v2 : Value} (w : World) (u1 : Ts w v1 A) (u2 : Is w v2 S) :
    Calls Try.prog 16 #[v1, v2] w fun e w' => e = .returned (.tuple #[.bool r, .int .i64 er]) ∧ Below w.heap.size w w' := by
  rcases h with ⟨rfl, h1, h2, hr⟩ | ⟨rfl, h, rfl⟩
  · exact shut_ok h1 h2 hr w u1 u2
  · exact shut_no h w u1 u2
theorem kis_any {A : List M.Tm} {H L : List Int} {r : Bool} {er : Int} (h : ChnA A H L r er) {v1 v2 v3 : Value} (w : World) (u1 : Ts w v1 A) (u2 : Is w v2 H) (u3 : Is w v3 L) :
    Calls Try.prog 18 #[v1, v2, v3] w fun e w' => e = .returned (.tuple #[.bool r, .int .i64 er]) ∧ Below w.heap.size w w' := by
  rcases h with ⟨rfl, h1, h2, h3, hr⟩ | ⟨rfl, h, rfl⟩
  · exact is_ok h1 h2 h3 hr w u1 u2 u3
  · exact is_no h w u1 u2 u3
set_option maxRecDepth 100000 in
theorem r6all_any {A : List M.Tm} {H L : List Int} {er : Int} (h : AllA A H L er) {v1 v2 : Value} (w : World) (u1 : Ts w v1 A) (u2 : Is w v2 H) :
    Calls Try.prog 13 #[v1, v2] w fun e w' => ∃ v', e = .returned (.tuple #[v', .int .i64 er]) ∧ w'.ownsRow w.heap.size 3 1 v' L.length (elInt.cells L) ∧ Below w.heap.size w w' := by
  have U1 := hidq u1
  have U2 := hidq u2
  clear u1 u2
  rcases h with ⟨rfl, h1, h2, f, hf, rfl⟩ | ⟨rfl, h, rfl⟩
  · have HP := hidq (M.plsB_okL.2 ⟨h1, h2⟩)
    obtain ⟨n, hn⟩ : ∃ n, A.length = n := ⟨_, rfl⟩
    rw [hn]
    have HA := hidq h1
    have HH := hidq (M.okL.lt h2 hn)
    have hHl := h2.1
    have HN := hidq hn
    have HF := hidq hf
    clear h1 h2 hn hf
    go_enter Try.func13, Try.ntmps13
    go_wp2_with (first | (go_at_call 29; refine (rplaces_eq HP.out _ U1.out U2.out).mono ?_; rintro rr w1 ⟨rfl, hb1⟩; have B1 := hidq hb1; clear hb1) | (go_at_call 30; refine (rknown_any A HA.out n H f _ _ _ (U1.out.below B1.out) (U2.out.below B1.out) HN.out HH.out hHl HF.out).mono ?_; rintro rr w2 ⟨v2, rfl, ho2, hb2⟩; have O2 := hidq ho2; have B2 := hidq hb2; clear ho2 hb2))
    go_ret2
    exact ⟨_, rfl, own_lowq O2.out B1.out.size, below_trans B1.out B2.out⟩
  · have HP := hidq (M.plsB_not h)
    clear h
    go_enter Try.func13, Try.ntmps13
    go_wp2_with (first | (go_at_call 29; refine (rplaces_eq HP.out _ U1.out U2.out).mono ?_; rintro rr w1 ⟨rfl, hb1⟩; have B1 := hidq hb1; clear hb1))
    go_ret2
    exact ⟨_, rfl, World.ownsRow_nil _ _ _ _, B1.out⟩
set_option maxRecDepth 100000 in
set_option maxHeartbeats 1000000 in
theorem r6knows_any {A : List M.Tm} {H : List Int} {i : Int} {r : Bool} {er : Int} (h : KnwA A H i r er) {v1 v2 : Value} (w : World) (u1 : Ts w v1 A) (u2 : Is w v2 H) :
    Calls Try.prog 15 #[v1, v2, .int .i64 i] w fun e w' => e = .returned (.tuple #[.bool r, .int .i64 er]) ∧ Below w.heap.size w w' := by
  obtain ⟨a1, c1, rfl, q1, q2, _⟩ := u1.form
  have hm : A.length ≤ maxLen := by omega
  unfold maxLen at hm
  have U1 := hidq u1
  have U2 := hidq u2
  clear u1 u2
  rcases h with ⟨rfl, h1, h2, h3, hr⟩ | ⟨rfl, h, rfl⟩
  · have HP := hidq (M.plsB_okL.2 ⟨h1, h2⟩)
    obtain ⟨f, hf⟩ := M.kn_fun A H
    have HIN : Hid (decide (i ∈ M.outL f A.length) = r) := by
      show decide _ = r
      rw [Bool.eq_iff_iff, decide_eq_true_eq, hr]
      exact M.mem_outL h2.2 hf i
    obtain ⟨n, hn⟩ : ∃ n, A.length = n := ⟨_, rfl⟩
    have i0 : ¬ i < 0 := by have := h3.1; omega
    have i1 : ¬ (n : Int) ≤ i := by have := h3.2; omega
    rw [hn] at HIN q1 hm U1 ⊢
    have HA := hidq h1
    have HH := hidq (M.okL.lt h2 hn)
    have hHl := h2.1
    have hl := h1.1
    rw [hn] at hl
    have HN := hidq hn
    have HF := hidq hf
    have HOL := hidq (show ∀ x ∈ M.outL f n, 0 ≤ x ∧ x < (n : Int) from fun x hx => by obtain ⟨j, hj, _, rfl⟩ := (M.outL_mem f n x).1 hx; omega)
    clear h1 h2 h3 hr hn hf
    go_enter Try.func15, Try.ntmps15
    go_wp2_with (first | (go_at_call 29; refine (rplaces_eq HP.out _ U1.out U2.out).mono ?_; rintro rr w1 ⟨rfl, hb1⟩; have B1 := hidq hb1; clear hb1) | (go_at_call 30; refine (rknown_any A HA.out n H f _ _ _ (U1.out.below B1.out) (U2.out.below B1.out) HN.out HH.out hHl HF.out).mono ?_; rintro rr w2 ⟨v2, rfl, ho2, hb2⟩; have O2 := hidq ho2; have B2 := hidq hb2; clear ho2 hb2) | (go_at_call 31; refine (rin_eq HIN.out _ (is_of_own O2.out hl HOL.out)).mono ?_; rintro rr w3 ⟨rfl, hw3⟩; subst w3))
    go_ret2
    exact ⟨rfl, below_trans B1.out B2.out⟩
  · by_cases hp : M.Ok A ∧ M.okL A H
    · have HP := hidq (M.plsB_okL.2 hp)
      have hi : ¬ M.Pl A i := fun hi => h ⟨hp.1, hp.2, hi⟩
      by_cases i0 : i < 0
      · clear h hp hi
        generalize A.length = n at *
        go_enter Try.func15, Try.ntmps15
        go_wp2_with (first | (go_at_call 29; refine (rplaces_eq HP.out _ U1.out U2.out).mono ?_; rintro rr w1 ⟨rfl, hb1⟩; have B1 := hidq hb1; clear hb1))
        go_ret2
        exact ⟨rfl, B1.out⟩
      · have i1 : (A.length : Int) ≤ i := by
          rcases Int.lt_or_le i A.length with h' | h'
          · exact absurd ⟨by omega, h'⟩ hi
          · exact h'
        clear h hp hi
        generalize A.length = n at *
        go_enter Try.func15, Try.ntmps15
        go_wp2_with (first | (go_at_call 29; refine (rplaces_eq HP.out _ U1.out U2.out).mono ?_; rintro rr w1 ⟨rfl, hb1⟩; have B1 := hidq hb1; clear hb1))
        go_ret2
        exact ⟨rfl, B1.out⟩
    · have HP := hidq (M.plsB_not hp)
      clear h hp
      generalize A.length = n at *
      go_enter Try.func15, Try.ntmps15
      go_wp2_with (first | (go_at_call 29; refine (rplaces_eq HP.out _ U1.out U2.out).mono ?_; rintro rr w1 ⟨rfl, hb1⟩; have B1 := hidq hb1; clear hb1))
      go_ret2
      exact ⟨rfl, B1.out⟩
end Go.Proofs.Ythkkclhjpgkhaaa
