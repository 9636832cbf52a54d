/-
  What slices.ContainsFunc comes to with each of the closures of package know; what check comes to. Conditions: each theorem's own premises.
-/
import Derived.Test.YthkkclhjpgkhaaaY5
namespace Go.Proofs.Ythkkclhjpgkhaaa
open Go.RowKit
theorem any_take_next {p : Int → Bool} {L : List Int} {k : Nat} {x : Int} (h : L[k]? = some x) (h0 : (L.take k).any p = false) (hx : p x = false) : (L.take (k + 1)).any p = false := by
  obtain ⟨hk, e⟩ := List.getElem?_eq_some_iff.1 h
  rw [List.take_succ_eq_append_getElem hk, List.any_append, h0, e]
  simp [hx]
set_option maxRecDepth 100000 in
set_option maxHeartbeats 4000000 in
theorem idx_chk (p : Int → Bool) (b0 : Nat) (L : List Int) (v : Value) (w : World) (u : Is w v L)
    (hc : ∀ X, Below w.heap.size w X → ∀ x ∈ L, Calls Try.prog 45 #[.int .i64 x, .pointer (some ⟨b0, 0, none⟩)] X fun e w' => e = .returned (.bool (p x)) ∧ Below X.heap.size X w') (r : Bool) (hr : L.any p = r) :
    Calls Try.prog 49 #[v, (.func (.func 45) #[] #[.pointer (some ⟨b0, 0, none⟩)])] w fun e w' => (∃ i : Int, e = .returned (.int .i64 i) ∧ (if r = true then 0 ≤ i else i = -1)) ∧ Below w.heap.size w w' := by
  obtain ⟨a1, c1, rfl, hp1, hp2, hp4⟩ := u.form
  have hm : L.length ≤ maxLen := by omega
  unfold maxLen at hm
  have U := hidq (fun X (hb : Below w.heap.size w X) => u.below hb)
  have HC := hidq hc
  have HP4 := hidq hp4
  have HR := hidq hr
  clear hp4 u hc hr
  generalize hn : L.length = n at *
  have HN := hidq hn
  clear hn
  go_enter Try.func49, Try.ntmps49
  go_wp2
  go_loopw [8] (fun x wr => ∃ k : Nat, k ≤ n ∧ x = .int .i64 k ∧ (L.take k).any p = false ∧ Below w.heap.size w wr) (fun x _ => n - (intOf x).toNat)
  case atStart => exact ⟨0, by omega, rfl, by simp, Below.refl _ _⟩
  case round =>
    obtain ⟨k, hk, rfl, hno, hb⟩ := hrel
    have HNO := hidq hno
    have HB := hidq hb
    by_cases hlt : k < n
    · obtain ⟨b1, o1, rfl⟩ := HP4.out (by omega)
      obtain ⟨x, hx⟩ : ∃ x, L[k]? = some x := ⟨_, List.getElem?_eq_getElem (by rw [HN.out]; exact hlt)⟩
      have c1 := Is.cellq (U.out _ hb) hx
      have HX := hidq hx
      have CX := hidq (HC.out wr hb x (List.mem_of_getElem? hx))
      clear hx hno hb
      cases hp : p x with
      | true =>
        obtain rfl : r = true := by rw [← HR.out, List.any_eq_true]; exact ⟨x, List.mem_of_getElem? HX.out, hp⟩
        rw [hp] at CX
        clear hp
        go_wp2_with (first | (go_at_call 45; refine CX.out.mono ?_; rintro rr w2 ⟨rfl, hb2⟩; have B2 := hidq (below_trans HB.out hb2); clear hb2))
        go_ret
        exact ⟨⟨_, rfl, by simp⟩, B2.out⟩
      | false =>
        have HN2 := hidq (any_take_next HX.out HNO.out hp)
        rw [hp] at CX
        clear hp
        go_wp2_with (first | (go_at_call 45; refine CX.out.mono ?_; rintro rr w2 ⟨rfl, hb2⟩; have B2 := hidq (below_trans HB.out hb2); clear hb2))
        go_roundw
        case rel => exact ⟨k + 1, by omega, by go_num, HN2.out, B2.out⟩
        case measure => simp [intOf]; omega
    · obtain rfl : r = false := by rw [← HR.out, ← HNO.out, List.take_of_length_le (by rw [HN.out]; omega)]
      clear hno hb
      go_wp2
      go_ret
      first | exact ⟨⟨_, rfl, by simp⟩, HB.out⟩ | exact ⟨rfl, HB.out⟩
set_option maxRecDepth 100000 in
theorem has_chk (p : Int → Bool) (b0 : Nat) (L : List Int) (v : Value) (w : World) (u : Is w v L)
    (hc : ∀ X, Below w.heap.size w X → ∀ x ∈ L, Calls Try.prog 45 #[.int .i64 x, .pointer (some ⟨b0, 0, none⟩)] X fun e w' => e = .returned (.bool (p x)) ∧ Below X.heap.size X w') (r : Bool) (hr : L.any p = r) :
    Calls Try.prog 33 #[v, (.func (.func 45) #[] #[.pointer (some ⟨b0, 0, none⟩)])] w fun e w' => e = .returned (.bool r) ∧ Below w.heap.size w w' := by
  have HI := hidq (idx_chk p b0 L v w u hc r hr)
  clear hc u hr
  go_enter Try.func33, Try.ntmps33
  cases r with
  | true =>
    go_wp2_with (first | (go_at_call 49; refine HI.out.mono ?_; rintro rr w2 ⟨⟨i, rfl, hi⟩, hb2⟩; rw [if_pos rfl] at hi))
    go_ret
    exact ⟨rfl, hb2⟩
  | false =>
    go_wp2_with (first | (go_at_call 49; refine HI.out.mono ?_; rintro rr w2 ⟨⟨i, rfl, hi⟩, hb2⟩; rw [if_neg (by decide)] at hi; subst hi))
    go_ret
    exact ⟨rfl, hb2⟩
set_option maxRecDepth 100000 in
set_option maxHeartbeats 4000000 in
theorem idx_shut (p : Int → Bool) (b0 : Nat) (L : List Int) (v : Value) (w : World) (u : Is w v L)
    (hc : ∀ X, Below w.heap.size w X → ∀ x ∈ L, Calls Try.prog 32 #[.int .i64 x, .pointer (some ⟨b0, 0, none⟩)] X fun e w' => e = .returned (.bool (p x)) ∧ Below X.heap.size X w') (r : Bool) (hr : L.any p = r) :
    Calls Try.prog 49 #[v, (.func (.func 32) #[] #[.pointer (some ⟨b0, 0, none⟩)])] w fun e w' => (∃ i : Int, e = .returned (.int .i64 i) ∧ (if r = true then 0 ≤ i else i = -1)) ∧ Below w.heap.size w w' := by
  obtain ⟨a1, c1, rfl, hp1, hp2, hp4⟩ := u.form
  have hm : L.length ≤ maxLen := by omega
  unfold maxLen at hm
  have U := hidq (fun X (hb : Below w.heap.size w X) => u.below hb)
  have HC := hidq hc
  have HP4 := hidq hp4
  have HR := hidq hr
  clear hp4 u hc hr
  generalize hn : L.length = n at *
  have HN := hidq hn
  clear hn
  go_enter Try.func49, Try.ntmps49
  go_wp2
  go_loopw [8] (fun x wr => ∃ k : Nat, k ≤ n ∧ x = .int .i64 k ∧ (L.take k).any p = false ∧ Below w.heap.size w wr) (fun x _ => n - (intOf x).toNat)
  case atStart => exact ⟨0, by omega, rfl, by simp, Below.refl _ _⟩
  case round =>
    obtain ⟨k, hk, rfl, hno, hb⟩ := hrel
    have HNO := hidq hno
    have HB := hidq hb
    by_cases hlt : k < n
    · obtain ⟨b1, o1, rfl⟩ := HP4.out (by omega)
      obtain ⟨x, hx⟩ : ∃ x, L[k]? = some x := ⟨_, List.getElem?_eq_getElem (by rw [HN.out]; exact hlt)⟩
      have c1 := Is.cellq (U.out _ hb) hx
      have HX := hidq hx
      have CX := hidq (HC.out wr hb x (List.mem_of_getElem? hx))
      clear hx hno hb
      cases hp : p x with
      | true =>
        obtain rfl : r = true := by rw [← HR.out, List.any_eq_true]; exact ⟨x, List.mem_of_getElem? HX.out, hp⟩
        rw [hp] at CX
        clear hp
        go_wp2_with (first | (go_at_call 32; refine CX.out.mono ?_; rintro rr w2 ⟨rfl, hb2⟩; have B2 := hidq (below_trans HB.out hb2); clear hb2))
        go_ret
        exact ⟨⟨_, rfl, by simp⟩, B2.out⟩
      | false =>
        have HN2 := hidq (any_take_next HX.out HNO.out hp)
        rw [hp] at CX
        clear hp
        go_wp2_with (first | (go_at_call 32; refine CX.out.mono ?_; rintro rr w2 ⟨rfl, hb2⟩; have B2 := hidq (below_trans HB.out hb2); clear hb2))
        go_roundw
        case rel => exact ⟨k + 1, by omega, by go_num, HN2.out, B2.out⟩
        case measure => simp [intOf]; omega
    · obtain rfl : r = false := by rw [← HR.out, ← HNO.out, List.take_of_length_le (by rw [HN.out]; omega)]
      clear hno hb
      go_wp2
      go_ret
      first | exact ⟨⟨_, rfl, by simp⟩, HB.out⟩ | exact ⟨rfl, HB.out⟩
set_option maxRecDepth 100000 in
theorem has_shut (p : Int → Bool) (b0 : Nat) (L : List Int) (v : Value) (w : World) (u : Is w v L)
    (hc : ∀ X, Below w.heap.size w X → ∀ x ∈ L, Calls Try.prog 32 #[.int .i64 x, .pointer (some ⟨b0, 0, none⟩)] X fun e w' => e = .returned (.bool (p x)) ∧ Below X.heap.size X w') (r : Bool) (hr : L.any p = r) :
    Calls Try.prog 33 #[v, (.func (.func 32) #[] #[.pointer (some ⟨b0, 0, none⟩)])] w fun e w' => e = .returned (.bool r) ∧ Below w.heap.size w w' := by
  have HI := hidq (idx_shut p b0 L v w u hc r hr)
  clear hc u hr
  go_enter Try.func33, Try.ntmps33
  cases r with
  | true =>
    go_wp2_with (first | (go_at_call 49; refine HI.out.mono ?_; rintro rr w2 ⟨⟨i, rfl, hi⟩, hb2⟩; rw [if_pos rfl] at hi))
    go_ret
    exact ⟨rfl, hb2⟩
  | false =>
    go_wp2_with (first | (go_at_call 49; refine HI.out.mono ?_; rintro rr w2 ⟨⟨i, rfl, hi⟩, hb2⟩; rw [if_neg (by decide)] at hi; subst hi))
    go_ret
    exact ⟨rfl, hb2⟩
set_option maxRecDepth 100000 in
set_option maxHeartbeats 4000000 in
theorem idx_is (p : Int → Bool) (b0 b9 : Nat) (L : List Int) (v : Value) (w : World) (u : Is w v L)
    (hc : ∀ X, Below w.heap.size w X → ∀ x ∈ L, Calls Try.prog 37 #[.int .i64 x, .pointer (some ⟨b0, 0, none⟩), .pointer (some ⟨b9, 0, none⟩)] X fun e w' => e = .returned (.bool (p x)) ∧ Below X.heap.size X w') (r : Bool) (hr : L.any p = r) :
    Calls Try.prog 49 #[v, (.func (.func 37) #[] #[.pointer (some ⟨b0, 0, none⟩), .pointer (some ⟨b9, 0, none⟩)])] w fun e w' => (∃ i : Int, e = .returned (.int .i64 i) ∧ (if r = true then 0 ≤ i else i = -1)) ∧ Below w.heap.size w w' := by
  obtain ⟨a1, c1, rfl, hp1, hp2, hp4⟩ := u.form
  have hm : L.length ≤ maxLen := by omega
  unfold maxLen at hm
  have U := hidq (fun X (hb : Below w.heap.size w X) => u.below hb)
  have HC := hidq hc
  have HP4 := hidq hp4
  have HR := hidq hr
  clear hp4 u hc hr
  generalize hn : L.length = n at *
  have HN := hidq hn
  clear hn
  go_enter Try.func49, Try.ntmps49
  go_wp2
  go_loopw [8] (fun x wr => ∃ k : Nat, k ≤ n ∧ x = .int .i64 k ∧ (L.take k).any p = false ∧ Below w.heap.size w wr) (fun x _ => n - (intOf x).toNat)
  case atStart => exact ⟨0, by omega, rfl, by simp, Below.refl _ _⟩
  case round =>
    obtain ⟨k, hk, rfl, hno, hb⟩ := hrel
    have HNO := hidq hno
    have HB := hidq hb
    by_cases hlt : k < n
    · obtain ⟨b1, o1, rfl⟩ := HP4.out (by omega)
      obtain ⟨x, hx⟩ : ∃ x, L[k]? = some x := ⟨_, List.getElem?_eq_getElem (by rw [HN.out]; exact hlt)⟩
      have c1 := Is.cellq (U.out _ hb) hx
      have HX := hidq hx
      have CX := hidq (HC.out wr hb x (List.mem_of_getElem? hx))
      clear hx hno hb
      cases hp : p x with
      | true =>
        obtain rfl : r = true := by rw [← HR.out, List.any_eq_true]; exact ⟨x, List.mem_of_getElem? HX.out, hp⟩
        rw [hp] at CX
        clear hp
        go_wp2_with (first | (go_at_call 37; refine CX.out.mono ?_; rintro rr w2 ⟨rfl, hb2⟩; have B2 := hidq (below_trans HB.out hb2); clear hb2))
        go_ret
        exact ⟨⟨_, rfl, by simp⟩, B2.out⟩
      | false =>
        have HN2 := hidq (any_take_next HX.out HNO.out hp)
        rw [hp] at CX
        clear hp
        go_wp2_with (first | (go_at_call 37; refine CX.out.mono ?_; rintro rr w2 ⟨rfl, hb2⟩; have B2 := hidq (below_trans HB.out hb2); clear hb2))
        go_roundw
        case rel => exact ⟨k + 1, by omega, by go_num, HN2.out, B2.out⟩
        case measure => simp [intOf]; omega
    · obtain rfl : r = false := by rw [← HR.out, ← HNO.out, List.take_of_length_le (by rw [HN.out]; omega)]
      clear hno hb
      go_wp2
      go_ret
      first | exact ⟨⟨_, rfl, by simp⟩, HB.out⟩ | exact ⟨rfl, HB.out⟩
set_option maxRecDepth 100000 in
theorem has_is (p : Int → Bool) (b0 b9 : Nat) (L : List Int) (v : Value) (w : World) (u : Is w v L)
    (hc : ∀ X, Below w.heap.size w X → ∀ x ∈ L, Calls Try.prog 37 #[.int .i64 x, .pointer (some ⟨b0, 0, none⟩), .pointer (some ⟨b9, 0, none⟩)] X fun e w' => e = .returned (.bool (p x)) ∧ Below X.heap.size X w') (r : Bool) (hr : L.any p = r) :
    Calls Try.prog 33 #[v, (.func (.func 37) #[] #[.pointer (some ⟨b0, 0, none⟩), .pointer (some ⟨b9, 0, none⟩)])] w fun e w' => e = .returned (.bool r) ∧ Below w.heap.size w w' := by
  have HI := hidq (idx_is p b0 b9 L v w u hc r hr)
  clear hc u hr
  go_enter Try.func33, Try.ntmps33
  cases r with
  | true =>
    go_wp2_with (first | (go_at_call 49; refine HI.out.mono ?_; rintro rr w2 ⟨⟨i, rfl, hi⟩, hb2⟩; rw [if_pos rfl] at hi))
    go_ret
    exact ⟨rfl, hb2⟩
  | false =>
    go_wp2_with (first | (go_at_call 49; refine HI.out.mono ?_; rintro rr w2 ⟨⟨i, rfl, hi⟩, hb2⟩; rw [if_neg (by decide)] at hi; subst hi))
    go_ret
    exact ⟨rfl, hb2⟩
set_option maxRecDepth 100000 in
theorem check1_any (b0 n c : Nat) (ao : Option Addr) (x : Int) (w : World) (h : w.cell? ⟨b0, 0, none⟩ = some (.slice ao n c)) :
    Calls Try.prog 45 #[.int .i64 x, .pointer (some ⟨b0, 0, none⟩)] w fun e w' => e = .returned (.bool (decide (x < 0 ∨ (n : Int) ≤ x))) ∧ Below w.heap.size w w' := by
  by_cases h0 : x < 0
  · obtain ⟨r, hr⟩ : ∃ r, decide (x < 0 ∨ (n : Int) ≤ x) = r := ⟨_, rfl⟩
    obtain rfl : r = true := by rw [← hr]; exact decide_eq_true (.inl h0)
    rw [hr]
    clear hr
    go_enter Try.func45, Try.ntmps45
    go_wp2
    go_ret
    exact ⟨rfl, Below.refl _ _⟩
  · by_cases h1 : (n : Int) ≤ x
    · obtain ⟨r, hr⟩ : ∃ r, decide (x < 0 ∨ (n : Int) ≤ x) = r := ⟨_, rfl⟩
      obtain rfl : r = true := by rw [← hr]; exact decide_eq_true (.inr h1)
      rw [hr]
      clear hr
      go_enter Try.func45, Try.ntmps45
      go_wp2
      go_ret
      exact ⟨rfl, Below.refl _ _⟩
    · obtain ⟨r, hr⟩ : ∃ r, decide (x < 0 ∨ (n : Int) ≤ x) = r := ⟨_, rfl⟩
      obtain rfl : r = false := by rw [← hr]; exact decide_eq_false (by omega)
      rw [hr]
      clear hr
      go_enter Try.func45, Try.ntmps45
      go_wp2
      go_ret
      exact ⟨rfl, Below.refl _ _⟩
/-- a list of places that there are -/
def M.okL (A : List M.Tm) (L : List Int) : Prop := L.length ≤ 65536 ∧ ∀ x ∈ L, M.Pl A x
theorem M.okL_any {A : List M.Tm} {L : List Int} (h : L.length ≤ 65536) : L.any (fun x => decide (x < 0 ∨ (A.length : Int) ≤ x)) = false ↔ M.okL A L := by
  rw [List.any_eq_false]
  constructor
  · intro h1
    refine ⟨h, fun x hx => ?_⟩
    have := h1 x hx
    simp only [decide_eq_true_eq] at this
    exact ⟨by omega, by omega⟩
  · intro h1 x hx
    have := h1.2 x hx
    simp only [decide_eq_true_eq]
    have h2 := this.1
    have h3 := this.2
    omega
/-- rows of rows of places -/
def Iss (W : World) (v : Value) (Ls : List (List Int)) : Prop := ∃ R : List SlT, Sl elSl W v R ∧ R.length = Ls.length ∧ ∀ (j : Nat) (x : SlT) (L : List Int), R[j]? = some x → Ls[j]? = some L → Is W (slV x) L
theorem Iss.below {W W' : World} {v : Value} {Ls : List (List Int)} (h : Iss W v Ls) (hb : Below W.heap.size W W') : Iss W' v Ls := by
  obtain ⟨R, h1, h2, h3⟩ := h
  exact ⟨R, h1.below hb, h2, fun j x L hx hL => (h3 j x L hx hL).below hb⟩
open Classical in
theorem kchk_ok {A : List M.Tm} {Ls : List (List Int)} {r : Int} (h : (if M.Ok A ∧ ∀ L ∈ Ls, M.okL A L then (0 : Int) else 1) = r) : (r = 0 ↔ M.Ok A ∧ ∀ L ∈ Ls, M.okL A L) ∧ (r = 0 ∨ r = 1) := by
  subst h
  split
  · exact ⟨⟨fun _ => by assumption, fun _ => rfl⟩, .inl rfl⟩
  · exact ⟨⟨fun h => by omega, fun h => by contradiction⟩, .inr rfl⟩
set_option maxRecDepth 100000 in
set_option maxHeartbeats 4000000 in
theorem kcheck_any (A : List M.Tm) (Ls : List (List Int)) (r : Int) (v1 v2 : Value) (w : World) (u1 : Ts w v1 A) (u2 : Iss w v2 Ls) (hr : (r = 0 ↔ M.Ok A ∧ ∀ L ∈ Ls, M.okL A L) ∧ (r = 0 ∨ r = 1)) :
    Calls Try.prog 25 #[v1, v2] w fun e w' => e = .returned (.int .i64 r) ∧ Below w.heap.size w w' := by
  obtain ⟨a1, c1, rfl, hp1, hp2, hp4⟩ := u1.form
  obtain ⟨R, uR, hRl, uI⟩ := u2
  obtain ⟨a2, c2, rfl, hq1, hq2, hq4⟩ := uR.form
  have hm1 : A.length ≤ maxLen := by omega
  have hm2 : R.length ≤ maxLen := by omega
  unfold maxLen at hm1 hm2
  have U1 := hidq u1
  have UR := hidq (fun X (hb : Below w.heap.size w X) => uR.below hb)
  have UI := hidq (fun (X : World) (hb : Below w.heap.size w X) (j : Nat) (x : SlT) (L : List Int) (hx : R[j]? = some x) (hL : Ls[j]? = some L) => (uI j x L hx hL).below hb)
  have HQ4 := hidq hq4
  have HR := hidq hr
  clear hp4 hq4 u1 uR uI hr
  have HB0 := hidq (below_one (o := .cells #[.slice a1 A.length c1] 22) (Below.refl w.heap.size w))
  have X0 := hidq (Bxs.new w #[.slice a1 A.length c1] 22)
  by_cases hA : M.Ok A
  · have HC : Hid (M.chkE A = 0) := if_pos hA
    have HA := hidq hA
    clear hA
    generalize hn : A.length = n at *
    have HN := hidq hn
    generalize hm : R.length = m at *
    have HM := hidq hm
    have HML := hidq hRl
    clear hn hm hRl
    go_enter Try.func25, Try.ntmps25
    go_wp2_with (first | (go_at_call 44; refine (check_eq HC.out _ (U1.out.alloc _)).mono ?_; rintro rr w1 ⟨rfl, hb1⟩; have B1 := hidq hb1; clear hb1))
    have X1 := hidq (X0.out.below B1.out)
    have B2 := hidq (below_trans HB0.out B1.out)
    clear B1 HB0 X0
    go_loopw [17] (fun x wr => ∃ k : Nat, k ≤ m ∧ x = .int .i64 k ∧ (∀ L ∈ Ls.take k, M.okL A L) ∧ Below w1.heap.size w1 wr) (fun x _ => m - (intOf x).toNat)
    case atStart => exact ⟨0, by omega, rfl, by simp, Below.refl _ _⟩
    case round =>
      obtain ⟨k, hk, rfl, hall, hb⟩ := hrel
      have HAL := hidq hall
      have HB := hidq hb
      by_cases hlt : k < m
      · obtain ⟨b1, o1, rfl⟩ := HQ4.out (by omega)
        have hkR : k < R.length := by rw [HM.out]; exact hlt
        have hkL : k < Ls.length := by rw [← HML.out]; exact hlt
        obtain ⟨x, hx⟩ : ∃ x, R[k]? = some x := ⟨_, List.getElem?_eq_getElem hkR⟩
        obtain ⟨L, hL⟩ : ∃ L, Ls[k]? = some L := ⟨_, List.getElem?_eq_getElem hkL⟩
        have B3 := hidq (below_trans B2.out hb)
        have c1 := Sl.at (UR.out _ B3.out) hx (i := 0) (by decide)
        have hI := UI.out _ B3.out k x L hx hL
        have HI := hidq hI
        obtain ⟨ax, cx, ex, ex1, ex2, _⟩ := hI.form
        have e1 : (elSl.enc x)[0]? = some (.slice ax L.length cx) := by rw [← ex]; rfl
        rw [e1] at c1
        replace c1 : wr.cell? ⟨b1, o1 + k, none⟩ = some (.slice ax L.length cx) := by simpa [elSl] using c1
        rw [ex] at HI
        have hLm : L.length ≤ maxLen := by omega
        unfold maxLen at hLm
        have HMM := hidq (List.mem_of_getElem? hL)
        have HT := hidq (show Ls.take (k + 1) = Ls.take k ++ [L] by
          rw [List.take_succ_eq_append_getElem hkL]
          rw [List.getElem?_eq_getElem hkL] at hL
          rw [Option.some.inj hL])
        clear hx hL hkR hkL hI ex e1 hall hb
        by_cases h16 : L.length ≤ 65536
        · have h16i : ¬ (65536 : Int) < L.length := by omega
          obtain ⟨f, hf⟩ : ∃ f, L.any (fun x => decide (x < 0 ∨ (A.length : Int) ≤ x)) = f := ⟨_, rfl⟩
          have HOK := hidq (M.okL_any (A := A) h16)
          rw [hf] at HOK
          rw [HN.out] at hf
          have HF := hidq hf
          have X3 := hidq (fun X (hb : Below wr.heap.size wr X) => (X1.out.below (below_trans HB.out hb)).cell 0)
          have CF := hidq (has_chk (fun x => decide (x < 0 ∨ (n : Int) ≤ x)) w.heap.size L _ wr HI.out (fun X hb x _ => check1_any w.heap.size n _ _ x X (X3.out X hb)) f hf)
          clear hf h16
          generalize L.length = ll at *
          cases f with
          | true =>
            obtain rfl : r = 1 := by
              rcases HR.out.2 with h | h
              · have := HOK.out.2 ((HR.out.1.1 h).2 L HMM.out)
                cases this
              · exact h
            go_wp2_with (first | (go_at_call 33; refine CF.out.mono ?_; rintro rr w4 ⟨rfl, hb4⟩; have B4 := hidq (below_trans HB.out hb4); clear hb4))
            go_ret
            exact ⟨rfl, below_trans B2.out B4.out⟩
          | false =>
            have HK := hidq (HOK.out.1 rfl)
            go_wp2_with (first | (go_at_call 33; refine CF.out.mono ?_; rintro rr w4 ⟨rfl, hb4⟩; have B4 := hidq (below_trans HB.out hb4); clear hb4))
            go_roundw
            case rel => exact ⟨k + 1, by omega, by go_num, fun L' hL' => by
              rw [HT.out, List.mem_append, List.mem_singleton] at hL'
              rcases hL' with h | rfl
              · exact HAL.out L' h
              · exact HK.out, B4.out⟩
            case measure => simp [intOf]; omega
        · have h16i : (65536 : Int) < L.length := by omega
          obtain rfl : r = 1 := by
            rcases HR.out.2 with h | h
            · exact absurd ((HR.out.1.1 h).2 L HMM.out).1 h16
            · exact h
          clear h16
          generalize L.length = ll at *
          go_wp2
          go_ret
          exact ⟨rfl, B3.out⟩
      · obtain rfl : r = 0 := HR.out.1.2 ⟨HA.out, fun L hL => HAL.out L (by rw [List.take_of_length_le (by rw [← HML.out]; omega)]; exact hL)⟩
        clear hall hb
        go_wp2
        go_ret
        exact ⟨rfl, below_trans B2.out HB.out⟩
  · have HC : Hid (M.chkE A = 1) := if_neg hA
    obtain rfl : r = 1 := by
      rcases hr0 : HR.out.2 with h | h
      · exact absurd (HR.out.1.1 h).1 hA
      · exact h
    clear hA
    generalize A.length = n at *
    go_enter Try.func25, Try.ntmps25
    go_wp2_with (first | (go_at_call 44; refine (check_eq HC.out _ (U1.out.alloc _)).mono ?_; rintro rr w1 ⟨rfl, hb1⟩; have B1 := hidq hb1; clear hb1))
    go_ret
    exact ⟨rfl, below_trans HB0.out B1.out⟩
end Go.Proofs.Ythkkclhjpgkhaaa
