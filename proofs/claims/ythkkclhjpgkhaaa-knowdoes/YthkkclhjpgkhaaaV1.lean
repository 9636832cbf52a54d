/-
  What the document's own in, Few and places of layer 6 come to at every input. Conditions: the slices hold terms, and places.
-/
import Derived.Test.YthkkclhjpgkhaaaNK
import Derived.Test.YthkkclhjpgkhaaaT7
namespace Go.Proofs.Ythkkclhjpgkhaaa
open Go.RowKit
theorem Is.cellq {W : World} {b off n cap : Nat} {L : List Int} (h : Is W (.slice (some ⟨b, off, none⟩) n cap) L) {k : Nat} {x : Int} (hk : L[k]? = some x) : W.cell? ⟨b, off + k, none⟩ = some (.int .i64 x) := by
  have := Sl.at h hk (i := 0) (by decide)
  simpa [elInt] using this
set_option maxRecDepth 100000 in
set_option maxHeartbeats 1000000 in
theorem rin_any (L : List Int) (i : Int) (v : Value) (w : World) (u : Is w v L) :
    Calls Try.prog 31 #[v, .int .i64 i] w fun e w' => e = .returned (.bool (decide (i ∈ L))) ∧ w' = w := by
  obtain ⟨a1, c1, rfl, hp1, hp2, hp4⟩ := u.form
  have hm : L.length ≤ maxLen := by omega
  unfold maxLen at hm
  have U := hidq u
  have HP4 := hidq hp4
  clear hp4 u
  obtain ⟨r, hr⟩ : ∃ r, decide (i ∈ L) = r := ⟨_, rfl⟩
  have HR := hidq hr
  rw [hr]
  clear hr
  generalize hn : L.length = n at *
  have HN := hidq hn
  clear hn
  go_enter Try.func31, Try.ntmps31
  go_wp2
  go_loop [9] (fun x => ∃ k : Nat, k ≤ n ∧ x = .int .i64 k ∧ ∀ j, j < k → L[j]? ≠ some i) (fun x => n - (intOf x).toNat)
  case atStart => exact ⟨0, by omega, rfl, fun j hj => by omega⟩
  case round =>
    obtain ⟨k, hk, rfl, hall⟩ := hrel
    have HA := hidq hall
    clear hall
    by_cases hlt : k < n
    · obtain ⟨b1, o1, rfl⟩ := HP4.out (by omega)
      obtain ⟨x, hx⟩ : ∃ x, L[k]? = some x := ⟨_, List.getElem?_eq_getElem (by rw [HN.out]; exact hlt)⟩
      have c1 := Is.cellq U.out hx
      by_cases he : x = i
      · subst he
        obtain rfl : r = true := by rw [← HR.out]; exact decide_eq_true (List.mem_of_getElem? hx)
        clear hx
        go_wp2
        go_ret
        exact ⟨rfl, rfl⟩
      · have HX := hidq (show L[k]? ≠ some i from fun e => he (by rw [hx] at e; exact Option.some.inj e))
        clear hx
        go_wp2
        go_round
        case rel => exact ⟨k + 1, by omega, by go_num, fun j hj => by
          rcases Nat.lt_or_ge j k with h | h
          · exact HA.out j h
          · obtain rfl : j = k := by omega
            exact HX.out⟩
        case measure => simp [intOf]; omega
    · obtain rfl : r = false := by
        rw [← HR.out]
        refine decide_eq_false fun hmem => ?_
        obtain ⟨j, hj, e⟩ := List.getElem_of_mem hmem
        exact HA.out j (by rw [HN.out] at hj; omega) (by rw [List.getElem?_eq_getElem hj, e])
      go_wp2
      go_ret
      exact ⟨rfl, rfl⟩
theorem rin_eq {L : List Int} {i : Int} {r : Bool} (h : decide (i ∈ L) = r) {v : Value} (w : World) (u : Is w v L) :
    Calls Try.prog 31 #[v, .int .i64 i] w fun e w' => e = .returned (.bool r) ∧ w' = w := by subst h; exact rin_any L i v w u
/-- terms may be, and all places are theirs -/
def M.plsB (A : List M.Tm) (L : List Int) : Bool := decide (M.Ok A ∧ L.length ≤ 65536 ∧ ∀ x ∈ L, 0 ≤ x ∧ x < A.length)
theorem M.plsB_iff {A : List M.Tm} {L : List Int} : M.plsB A L = true ↔ M.Ok A ∧ L.length ≤ 65536 ∧ ∀ x ∈ L, M.Pl A x := by unfold M.plsB; rw [decide_eq_true_eq]
set_option maxRecDepth 100000 in
set_option maxHeartbeats 4000000 in
theorem rplaces_any (A : List M.Tm) (L : List Int) (v1 v2 : Value) (w : World) (u1 : Ts w v1 A) (u2 : Is w v2 L) :
    Calls Try.prog 29 #[v1, v2] w fun e w' => e = .returned (.bool (M.plsB A L)) ∧ Below w.heap.size w w' := by
  obtain ⟨a1, c1, rfl, hp1, hp2, hp4⟩ := u1.form
  obtain ⟨a2, c2, rfl, hq1, hq2, hq4⟩ := u2.form
  have hm1 : A.length ≤ maxLen := by omega
  have hm2 : L.length ≤ maxLen := by omega
  unfold maxLen at hm1 hm2
  have U1 := hidq u1
  have U2 := hidq (fun X (hb : Below w.heap.size w X) => u2.below hb)
  have HQ4 := hidq hq4
  clear hp4 hq4 u1 u2
  obtain ⟨r, hr⟩ : ∃ r, M.plsB A L = r := ⟨_, rfl⟩
  have HR := hidq hr
  rw [hr]
  clear hr
  have HI := hidq (M.plsB_iff (A := A) (L := L))
  rw [HR.out] at HI
  by_cases hA : M.Ok A
  · have HC : Hid (M.chkE A = 0) := if_pos hA
    have HA := hidq hA
    clear hA
    by_cases h16 : L.length ≤ 65536
    · have H16 := hidq h16
      have h16i : ¬ (65536 : Int) < L.length := by omega
      generalize hn : L.length = n at *
      have HN := hidq hn
      generalize hN : A.length = N at *
      have HNN := hidq hN
      clear hn hN
      go_enter Try.func29, Try.ntmps29
      go_wp2_with (first | (go_at_call 48; refine (rcheck_eq HC.out _ U1.out).mono ?_; rintro rr w1 ⟨rfl, hb1⟩; have B1 := hidq hb1; clear hb1))
      go_loop [17] (fun x => ∃ k : Nat, k ≤ n ∧ x = .int .i64 k ∧ ∀ x ∈ L.take k, 0 ≤ x ∧ x < (N : Int)) (fun x => n - (intOf x).toNat)
      case atStart => exact ⟨0, by omega, rfl, fun x hx => by simp at hx⟩
      case round =>
        obtain ⟨k, hk, rfl, hall⟩ := hrel
        have HAL := hidq hall
        clear hall
        by_cases hlt : k < n
        · obtain ⟨b1, o1, rfl⟩ := HQ4.out (by omega)
          have hkl : k < L.length := by rw [HN.out]; exact hlt
          obtain ⟨x, hx⟩ : ∃ x, L[k]? = some x := ⟨_, List.getElem?_eq_getElem hkl⟩
          have c1 := Is.cellq (U2.out _ B1.out) hx
          have HM := hidq (List.mem_of_getElem? hx)
          have HT := hidq (show L.take (k + 1) = L.take k ++ [x] by
            rw [List.take_succ_eq_append_getElem hkl]
            rw [List.getElem?_eq_getElem hkl] at hx
            rw [Option.some.inj hx])
          clear hx hkl
          by_cases h0 : x < 0
          · obtain rfl : r = false := by
              cases r with
              | false => rfl
              | true => have := (HI.out.1 rfl).2.2 x HM.out; omega
            go_wp2
            go_ret
            exact ⟨rfl, B1.out⟩
          · by_cases h1 : (N : Int) ≤ x
            · obtain rfl : r = false := by
                cases r with
                | false => rfl
                | true => have := (HI.out.1 rfl).2.2 x HM.out; have e := HNN.out; omega
              go_wp2
              go_ret
              exact ⟨rfl, B1.out⟩
            · go_wp2
              go_round
              case rel => exact ⟨k + 1, by omega, by go_num, fun y hy => by
                rw [HT.out, List.mem_append, List.mem_singleton] at hy
                rcases hy with hy | rfl
                · exact HAL.out y hy
                · omega⟩
              case measure => simp [intOf]; omega
        · obtain rfl : r = true := HI.out.2 ⟨HA.out, H16.out, fun x hx => by
            have := HAL.out x (by rw [List.take_of_length_le (by rw [HN.out]; omega)]; exact hx)
            rw [← HNN.out] at this
            exact this⟩
          go_wp2
          go_ret
          exact ⟨rfl, B1.out⟩
    · obtain rfl : r = false := by
        cases r with
        | false => rfl
        | true => exact absurd (HI.out.1 rfl).2.1 h16
      have h16i : (65536 : Int) < L.length := by omega
      go_enter Try.func29, Try.ntmps29
      go_wp2_with (first | (go_at_call 48; refine (rcheck_eq HC.out _ U1.out).mono ?_; rintro rr w1 ⟨rfl, hb1⟩; have B1 := hidq hb1; clear hb1))
      go_ret
      exact ⟨rfl, B1.out⟩
  · have HC : Hid (M.chkE A = 1) := if_neg hA
    obtain rfl : r = false := by
      cases r with
      | false => rfl
      | true => exact absurd (HI.out.1 rfl).1 hA
    clear hA
    go_enter Try.func29, Try.ntmps29
    go_wp2_with (first | (go_at_call 48; refine (rcheck_eq HC.out _ U1.out).mono ?_; rintro rr w1 ⟨rfl, hb1⟩; have B1 := hidq hb1; clear hb1))
    go_ret
    exact ⟨rfl, B1.out⟩
theorem rplaces_eq {A : List M.Tm} {L : List Int} {r : Bool} (h : M.plsB A L = r) {v1 v2 : Value} (w : World) (u1 : Ts w v1 A) (u2 : Is w v2 L) :
    Calls Try.prog 29 #[v1, v2] w fun e w' => e = .returned (.bool r) ∧ Below w.heap.size w w' := by subst h; exact rplaces_any A L v1 v2 w u1 u2
end Go.Proofs.Ythkkclhjpgkhaaa
