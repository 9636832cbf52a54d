/-
  What the laws' own few and live of layer 6, and the document's Few, come to. Conditions: each theorem's own premises.
-/
import Derived.Test.YthkkclhjpgkhaaaV5
namespace Go.Proofs.Ythkkclhjpgkhaaa
open Go.RowKit
/-- few enough to be played -/
def M.Fw (L : List Int) : Prop := L.length ≤ 60 ∨ (65536 < L.length ∧ L.length < 65546)
set_option maxRecDepth 100000 in
theorem fewq_any (L : List Int) (r : Bool) (hr : r = true ↔ M.Fw L) (v : Value) (w : World) (u : Is w v L) :
    Calls Try.prog 24 #[v] w fun e w' => e = .returned (.bool r) ∧ w' = w := by
  obtain ⟨ao, cap, rfl, h1, h2, _⟩ := u.form
  have hm : L.length ≤ maxLen := by omega
  unfold maxLen at hm
  unfold M.Fw at hr
  clear u
  generalize L.length = n at *
  by_cases h60 : n ≤ 60
  · obtain rfl : r = true := hr.2 (.inl h60)
    have h60i : (n : Int) ≤ 60 := by omega
    clear hr
    go_enter Try.func24, Try.ntmps24
    go_wp2
    go_ret
    exact ⟨rfl, rfl⟩
  · have h60i : ¬ (n : Int) ≤ 60 := by omega
    by_cases h16 : 65536 < n
    · have h16i : (65536 : Int) < n := by omega
      by_cases h46 : n < 65546
      · obtain rfl : r = true := hr.2 (.inr ⟨h16, h46⟩)
        have h46i : (n : Int) < 65546 := by omega
        clear hr
        go_enter Try.func24, Try.ntmps24
        go_wp2
        go_ret
        exact ⟨rfl, rfl⟩
      · obtain rfl : r = false := by
          cases r with
          | false => rfl
          | true => have := hr.1 rfl; omega
        have h46i : ¬ (n : Int) < 65546 := by omega
        clear hr
        go_enter Try.func24, Try.ntmps24
        go_wp2
        go_ret
        exact ⟨rfl, rfl⟩
    · obtain rfl : r = false := by
        cases r with
        | false => rfl
        | true => have := hr.1 rfl; omega
      have h16i : ¬ (65536 : Int) < n := by omega
      clear hr
      go_enter Try.func24, Try.ntmps24
      go_wp2
      go_ret
      exact ⟨rfl, rfl⟩
set_option maxRecDepth 100000 in
set_option maxHeartbeats 1000000 in
theorem few_any (A : List M.Tm) (Ls : List (List Int)) (r : Bool) (hr : r = true ↔ (∀ L ∈ Ls, M.Fw L) ∧ A.length ≤ 40) (v1 v2 : Value) (w : World) (u1 : Ts w v1 A) (u2 : Iss w v2 Ls) :
    Calls Try.prog 11 #[v1, v2] w fun e w' => e = .returned (.bool r) ∧ w' = w := by
  obtain ⟨a1, c1, rfl, hp1, hp2, _⟩ := u1.form
  obtain ⟨R, uR, hRl, uI⟩ := u2
  obtain ⟨a2, c2, rfl, hq1, hq2, hq4⟩ := uR.form
  have hm2 : R.length ≤ maxLen := by omega
  have hm1 : A.length ≤ maxLen := by omega
  unfold maxLen at hm2 hm1
  have UR := hidq uR
  have UI := hidq uI
  have HQ4 := hidq hq4
  have HR := hidq hr
  clear u1 uR uI hq4 hr
  generalize hm : R.length = m at *
  have HM := hidq hm
  have HML := hidq hRl
  clear hm hRl
  go_enter Try.func11, Try.ntmps11
  go_wp2
  go_loop [9] (fun x => ∃ k : Nat, k ≤ m ∧ x = .int .i64 k ∧ ∀ L ∈ Ls.take k, M.Fw L) (fun x => m - (intOf x).toNat)
  case atStart => exact ⟨0, by omega, rfl, by simp⟩
  case round =>
    obtain ⟨k, hk, rfl, hall⟩ := hrel
    have HAL := hidq hall
    clear hall
    by_cases hlt : k < m
    · obtain ⟨b1, o1, rfl⟩ := HQ4.out (by omega)
      have hkR : k < R.length := by rw [HM.out]; exact hlt
      have hkL : k < Ls.length := by rw [← HML.out]; exact hlt
      obtain ⟨x, hx⟩ : ∃ x, R[k]? = some x := ⟨_, List.getElem?_eq_getElem hkR⟩
      obtain ⟨L, hL⟩ : ∃ L, Ls[k]? = some L := ⟨_, List.getElem?_eq_getElem hkL⟩
      have c1 := Sl.at UR.out hx (i := 0) (by decide)
      have hI := UI.out k x L hx hL
      obtain ⟨ax, cx, ex, _, _, _⟩ := hI.form
      have e1 : (elSl.enc x)[0]? = some (.slice ax L.length cx) := by rw [← ex]; rfl
      rw [e1] at c1
      replace c1 : w.cell? ⟨b1, o1 + k, none⟩ = some (.slice ax L.length cx) := by simpa [elSl] using c1
      rw [ex] at hI
      have HI := hidq hI
      have HMM := hidq (List.mem_of_getElem? hL)
      have HT := hidq (show Ls.take (k + 1) = Ls.take k ++ [L] by
        rw [List.take_succ_eq_append_getElem hkL]
        rw [List.getElem?_eq_getElem hkL] at hL
        rw [Option.some.inj hL])
      clear hx hL hkR hkL hI ex e1
      by_cases hfw : M.Fw L
      · have CF := hidq (fewq_any L true ⟨fun _ => hfw, fun _ => rfl⟩ _ w HI.out)
        have HF := hidq hfw
        clear hfw
        generalize L.length = ll at *
        go_wp2_with (first | (go_at_call 24; refine CF.out.mono ?_; rintro rr w4 ⟨rfl, hw4⟩; subst w4))
        go_round
        case rel => exact ⟨k + 1, by omega, by go_num, fun L' hL' => by
          rw [HT.out, List.mem_append, List.mem_singleton] at hL'
          rcases hL' with h | rfl
          · exact HAL.out L' h
          · exact HF.out⟩
        case measure => simp [intOf]; omega
      · have CF := hidq (fewq_any L false ⟨fun h => by (cases h), fun h => absurd h hfw⟩ _ w HI.out)
        obtain rfl : r = false := by
          cases r with
          | false => rfl
          | true => exact absurd ((HR.out.1 rfl).1 L HMM.out) hfw
        clear hfw
        generalize L.length = ll at *
        go_wp2_with (first | (go_at_call 24; refine CF.out.mono ?_; rintro rr w4 ⟨rfl, hw4⟩; subst w4))
        go_ret
        exact ⟨rfl, rfl⟩
    · have HA := hidq (show ∀ L ∈ Ls, M.Fw L from fun L hL => HAL.out L (by rw [List.take_of_length_le (by rw [← HML.out]; omega)]; exact hL))
      by_cases h40 : A.length ≤ 40
      · obtain rfl : r = true := HR.out.2 ⟨HA.out, h40⟩
        have h40i : (A.length : Int) ≤ 40 := by omega
        clear h40
        generalize A.length = n at *
        go_wp2
        go_ret
        exact ⟨rfl, rfl⟩
      · obtain rfl : r = false := by
          cases r with
          | false => rfl
          | true => exact absurd (HR.out.1 rfl).2 h40
        have h40i : ¬ (A.length : Int) ≤ 40 := by omega
        clear h40
        generalize A.length = n at *
        go_wp2
        go_ret
        exact ⟨rfl, rfl⟩
/-- the chapter's example -/
def M.exL : List M.Tm := [(1, 1, 0), (1, 2, 0), (4, 0, 0), (5, 2, 1)]
theorem M.ex_ok : M.Ok M.exL := by
  refine ⟨by decide, fun i hi => ?_⟩
  have : i < 4 := hi
  match i, this with
  | 0, _ => exact ⟨by decide, by decide⟩
  | 1, _ => exact ⟨by decide, by decide⟩
  | 2, _ => exact ⟨by decide, by decide⟩
  | 3, _ => exact ⟨by decide, by decide⟩
theorem M.ex_okL {a b : Int} (ha : 0 ≤ a ∧ a < 4) (hb : 0 ≤ b ∧ b < 4) : M.okL M.exL [a, b] := ⟨by simp, fun x hx => by
  simp only [List.mem_cons, List.not_mem_nil, or_false] at hx
  rcases hx with rfl | rfl
  · exact ha
  · exact hb⟩
theorem M.ex_yes : M.Kn M.exL [3, 0] 1 := by
  have h2 : M.Kn M.exL [3, 0] 2 := .shut ⟨by decide, by decide⟩ (.inl ⟨.inr (.inr rfl), .base (by decide)⟩)
  exact .shut ⟨by decide, by decide⟩ (.inr (.inr ⟨3, .base (by decide), rfl, rfl, h2⟩))
theorem M.ex_no : ¬ M.Kn M.exL [3, 1] 0 := fun h => by
  have := h.least (S := fun x => x = 1 ∨ x = 3) (fun x hx => by simpa [or_comm] using hx) (fun j hp hf => by
    have h1 := hp.1
    have h2 : j < 4 := hp.2
    have h3 : j = 0 ∨ j = 1 ∨ j = 2 ∨ j = 3 := by omega
    rcases h3 with rfl | rfl | rfl | rfl
    · rcases hf with ⟨k, _⟩ | ⟨k, _⟩ | ⟨k, a, b, c, d⟩
      · simp [M.tm, M.at_, M.exL] at k
      · simp [M.tm, M.at_, M.exL] at k
      · rcases a with rfl | rfl
        · simp [M.tm, M.at_, M.exL] at b
        · simp [M.tm, M.at_, M.exL] at c
    · exact .inl rfl
    · rcases hf with ⟨_, k⟩ | ⟨k, _⟩ | ⟨k, a, b, c, d⟩
      · simp [M.tm, M.at_, M.exL] at k
      · simp [M.tm, M.at_, M.exL] at k
      · rcases a with rfl | rfl
        · simp [M.tm, M.at_, M.exL] at b
        · simp [M.tm, M.at_, M.exL] at c
    · exact .inr rfl)
  omega
theorem ex_ts (W : World) (g : Nat) (hg : g = W.heap.size) : Ts (W.alloc (.cells #[.int .i64 1, .int .i64 1, .int .i64 0, .int .i64 1, .int .i64 2, .int .i64 0, .int .i64 4, .int .i64 0, .int .i64 0, .int .i64 5, .int .i64 2, .int .i64 1] 41)) (.slice (some ⟨g, 0, none⟩) 4 4) M.exL := by
  subst hg
  refine ⟨_, 4, rfl, by decide, by simp [maxLen], ?_, fun _ => ⟨W.heap.size, 0, rfl, by simp, fun j hj => ?_⟩⟩
  · intro x hx
    simp only [M.exL, List.mem_cons, List.not_mem_nil, or_false] at hx
    rcases hx with rfl | rfl | rfl | rfl <;> exact ⟨⟨by decide, by decide⟩, ⟨by decide, by decide⟩, by decide, by decide⟩
  · rw [Nat.zero_add, (Bxs.new W _ _).cell]
    exact (Array.getElem?_toList (xs := #[Value.int .i64 1, .int .i64 1, .int .i64 0, .int .i64 1, .int .i64 2, .int .i64 0, .int .i64 4, .int .i64 0, .int .i64 0, .int .i64 5, .int .i64 2, .int .i64 1])).symm
set_option maxRecDepth 100000 in
set_option maxHeartbeats 1000000 in
theorem klive_any (w : World) : Calls Try.prog 10 #[] w fun e w' => e = .returned (.bool true) ∧ Below w.heap.size w w' := by
  have T1 := hidq trivial
  go_enter Try.func10, Try.ntmps10
  go_wp2_with (first | (go_at_call 14; clear T1; refine (knows_ok M.ex_ok (M.ex_okL (a := 3) (b := 0) ⟨by decide, by decide⟩ ⟨by decide, by decide⟩) ⟨by decide, by decide⟩ (r := true) ⟨fun _ => M.ex_yes, fun _ => rfl⟩ _ ((ex_ts w _ rfl).alloc _) (Is.of_ownq (own_lit2 _ 0 _ (by simp) (Nat.zero_le _) 3 0) (n := 4) (by decide) (by decide))).mono ?_; rintro rr w1 ⟨rfl, hb1⟩; have B1 := hidq hb1; clear hb1) | (go_at_call 14; refine (knows_ok M.ex_ok (M.ex_okL (a := 3) (b := 1) ⟨by decide, by decide⟩ ⟨by decide, by decide⟩) ⟨by decide, by decide⟩ (r := false) ⟨fun h => by (cases h), fun h => absurd h M.ex_no⟩ _ ((((ex_ts w _ rfl).alloc _).below B1.out).alloc _) (Is.of_ownq (own_lit2 _ 0 _ (by simp) (Nat.zero_le _) 3 1) (n := 4) (by decide) (by decide))).mono ?_; rintro rr w2 ⟨rfl, hb2⟩; have B2 := hidq hb2; clear hb2))
  go_ret
  exact ⟨rfl, below_trans (below_one (below_trans (below_one (below_one (Below.refl _ _))) B1.out)) B2.out⟩
end Go.Proofs.Ythkkclhjpgkhaaa
