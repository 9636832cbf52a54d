/-
  What slices.ContainsFunc comes to with each of the closures of package sub; what within, meet, Has and Touch answer. Conditions: each theorem's own premises.
-/
import Derived.Test.YtedilnipfjggfaaZA2
namespace Go.Proofs.Ytedilnipfjggfaa
open Go.RowKit
theorem any_take_sp {p : Int × Int → Bool} {S : List (Int × Int)} {k : Nat} {x : Int × Int} (h : S[k]? = some x) (h0 : (S.take k).any p = false) (hx : p x = false) : (S.take (k + 1)).any p = false := by
  obtain ⟨hk, e⟩ := List.getElem?_eq_some_iff.1 h
  rw [List.take_succ_eq_append_getElem hk, List.any_append, h0, e]
  simp [hx]
theorem Ps.at {W : World} {b off n cap : Nat} {S : List (Int × Int)} (h : Ps W (.slice (some ⟨b, off, none⟩) n cap) S) {k : Nat} {x : Int × Int} (hk : S[k]? = some x) : W.cell? ⟨b, off + k * 2, none⟩ = some (.int .u64 x.1) ∧ W.cell? ⟨b, off + k * 2 + 1, none⟩ = some (.int .u64 x.2) := by
  obtain ⟨ao, c, e, h2, _, _, h5⟩ := h
  obtain ⟨hl, hx⟩ := List.getElem?_eq_some_iff.1 hk
  cases e
  obtain ⟨b', o', e', _, h7⟩ := h5 (by omega)
  cases e'
  have := h7 k hl
  have hd : S[k]?.getD (0, 0) = x := by rw [hk]; rfl
  rw [hd] at this
  exact this
theorem Ps.form {W : World} {v : Value} {S : List (Int × Int)} (h : Ps W v S) : ∃ ao cap, v = .slice ao S.length cap ∧ S.length ≤ cap ∧ cap ≤ maxLen ∧ (0 < cap → ∃ b off, ao = some ⟨b, off, none⟩) := by
  obtain ⟨ao, cap, h1, h2, h3, _, h5⟩ := h
  exact ⟨ao, cap, h1, h2, h3, fun h0 => by obtain ⟨b, off, h6, _⟩ := h5 h0; exact ⟨b, off, h6⟩⟩
def Bo (W : World) (B : Nat) (v : Value) (t : TypeId) : Prop := W.heap[B]? = some (.cells #[v] t (0, 0))
theorem Bo.lt {W : World} {B : Nat} {v : Value} {t : TypeId} (h : Bo W B v t) : B < W.heap.size := (Array.getElem?_eq_some_iff.1 h).1
theorem Bo.cell {W : World} {B : Nat} {v : Value} {t : TypeId} (h : Bo W B v t) : W.cell? ⟨B, 0, none⟩ = some v := by
  have h' : W.heap[B]? = _ := h
  unfold World.cell?
  rw [h']; rfl
theorem Bo.new (W : World) (v : Value) (t : TypeId) : Bo (W.alloc (.cells #[v] t)) W.heap.size v t := heap_alloc_new W _
theorem Bo.alloc {W : World} {B : Nat} {v : Value} {t : TypeId} (h : Bo W B v t) (o : Obj) : Bo (W.alloc o) B v t := (Below.heap_alloc _ _ _ h.lt).trans h
theorem Bo.below {W W' : World} {B : Nat} {v : Value} {t : TypeId} (h : Bo W B v t) (hb : Below W.heap.size W W') : Bo W' B v t := (hb.block B h.lt).trans h
set_option maxRecDepth 100000 in
set_option maxHeartbeats 4000000 in
theorem idx_win (p : Int × Int → Bool) (b0 : Nat) (S : List (Int × Int)) (v : Value) (w : World) (u : Ps w v S)
    (hc : ∀ X, Below w.heap.size w X → ∀ x ∈ S, Calls Try.prog 56 #[.agg #[.int .u64 x.1, .int .u64 x.2], .pointer (some ⟨b0, 0, none⟩)] X fun e w' => e = .returned (.bool (p x)) ∧ Below X.heap.size X w') (r : Bool) (hr : S.any p = r) :
    Calls Try.prog 75 #[v, (.func (.func 56) #[] #[.pointer (some ⟨b0, 0, none⟩)])] w fun e w' => (∃ i : Int, e = .returned (.int .i64 i) ∧ (if r = true then 0 ≤ i else i = -1)) ∧ Below w.heap.size w w' := by
  obtain ⟨a1, c1, rfl, hp1, hp2, hp4⟩ := u.form
  have hm : S.length ≤ maxLen := by omega
  unfold maxLen at hm
  have U := hidq (fun X (hb : Below w.heap.size w X) => u.below hb)
  have HC := hidq hc
  have HP4 := hidq hp4
  have HR := hidq hr
  clear hp4 u hc hr
  generalize hn : S.length = n at *
  have HN := hidq hn
  clear hn
  go_enter Try.func75, Try.ntmps75
  go_wp2
  go_loopw [8] (fun x wr => ∃ k : Nat, k ≤ n ∧ x = .int .i64 k ∧ (S.take k).any p = false ∧ Below w.heap.size w wr) (fun x _ => n - (intOf x).toNat)
  case atStart => exact ⟨0, by omega, rfl, by simp, Below.refl _ _⟩
  case round =>
    obtain ⟨k, hk, rfl, hno, hb⟩ := hrel
    have HNO := hidq hno
    have HB := hidq hb
    by_cases hlt : k < n
    · obtain ⟨b1, o1, rfl⟩ := HP4.out (by omega)
      obtain ⟨x, hx⟩ : ∃ x, S[k]? = some x := ⟨_, List.getElem?_eq_getElem (by rw [HN.out]; exact hlt)⟩
      obtain ⟨c2, c3⟩ := Ps.at (U.out _ hb) hx
      have HX := hidq hx
      have CX := hidq (HC.out wr hb x (List.mem_of_getElem? hx))
      clear hx hno hb
      obtain ⟨y, z⟩ := x
      cases hp : p (y, z) with
      | true =>
        obtain rfl : r = true := by rw [← HR.out, List.any_eq_true]; exact ⟨_, List.mem_of_getElem? HX.out, hp⟩
        rw [hp] at CX
        clear hp
        go_wp2_with (first | (go_at_call 56; refine CX.out.mono ?_; rintro rr w2 ⟨rfl, hb2⟩; have B2 := hidq (below_trans HB.out hb2); clear hb2))
        go_ret
        exact ⟨⟨_, rfl, by simp⟩, B2.out⟩
      | false =>
        have HN2 := hidq (any_take_sp HX.out HNO.out hp)
        rw [hp] at CX
        clear hp
        go_wp2_with (first | (go_at_call 56; refine CX.out.mono ?_; rintro rr w2 ⟨rfl, hb2⟩; have B2 := hidq (below_trans HB.out hb2); clear hb2))
        go_roundw
        case rel => exact ⟨k + 1, by omega, by go_num, HN2.out, B2.out⟩
        case measure => simp [intOf]; omega
    · obtain rfl : r = false := by rw [← HR.out, ← HNO.out, List.take_of_length_le (by rw [HN.out]; omega)]
      clear hno hb
      go_wp2
      go_ret
      first | exact ⟨⟨_, rfl, by simp⟩, HB.out⟩ | exact ⟨rfl, HB.out⟩
set_option maxRecDepth 100000 in
theorem has_win (p : Int × Int → Bool) (b0 : Nat) (S : List (Int × Int)) (v : Value) (w : World) (u : Ps w v S)
    (hc : ∀ X, Below w.heap.size w X → ∀ x ∈ S, Calls Try.prog 56 #[.agg #[.int .u64 x.1, .int .u64 x.2], .pointer (some ⟨b0, 0, none⟩)] X fun e w' => e = .returned (.bool (p x)) ∧ Below X.heap.size X w') (r : Bool) (hr : S.any p = r) :
    Calls Try.prog 55 #[v, (.func (.func 56) #[] #[.pointer (some ⟨b0, 0, none⟩)])] w fun e w' => e = .returned (.bool r) ∧ Below w.heap.size w w' := by
  have HI := hidq (idx_win p b0 S v w u hc r hr)
  clear hc u hr
  go_enter Try.func55, Try.ntmps55
  cases r with
  | true =>
    go_wp2_with (first | (go_at_call 75; refine HI.out.mono ?_; rintro rr w2 ⟨⟨i, rfl, hi⟩, hb2⟩; rw [if_pos rfl] at hi))
    go_ret
    exact ⟨rfl, hb2⟩
  | false =>
    go_wp2_with (first | (go_at_call 75; refine HI.out.mono ?_; rintro rr w2 ⟨⟨i, rfl, hi⟩, hb2⟩; rw [if_neg (by decide)] at hi; subst hi))
    go_ret
    exact ⟨rfl, hb2⟩
set_option maxRecDepth 100000 in
set_option maxHeartbeats 4000000 in
theorem idx_beg (p : Int × Int → Bool) (b0 : Nat) (S : List (Int × Int)) (v : Value) (w : World) (u : Ps w v S)
    (hc : ∀ X, Below w.heap.size w X → ∀ x ∈ S, Calls Try.prog 58 #[.agg #[.int .u64 x.1, .int .u64 x.2], .pointer (some ⟨b0, 0, none⟩)] X fun e w' => e = .returned (.bool (p x)) ∧ Below X.heap.size X w') (r : Bool) (hr : S.any p = r) :
    Calls Try.prog 75 #[v, (.func (.func 58) #[] #[.pointer (some ⟨b0, 0, none⟩)])] w fun e w' => (∃ i : Int, e = .returned (.int .i64 i) ∧ (if r = true then 0 ≤ i else i = -1)) ∧ Below w.heap.size w w' := by
  obtain ⟨a1, c1, rfl, hp1, hp2, hp4⟩ := u.form
  have hm : S.length ≤ maxLen := by omega
  unfold maxLen at hm
  have U := hidq (fun X (hb : Below w.heap.size w X) => u.below hb)
  have HC := hidq hc
  have HP4 := hidq hp4
  have HR := hidq hr
  clear hp4 u hc hr
  generalize hn : S.length = n at *
  have HN := hidq hn
  clear hn
  go_enter Try.func75, Try.ntmps75
  go_wp2
  go_loopw [8] (fun x wr => ∃ k : Nat, k ≤ n ∧ x = .int .i64 k ∧ (S.take k).any p = false ∧ Below w.heap.size w wr) (fun x _ => n - (intOf x).toNat)
  case atStart => exact ⟨0, by omega, rfl, by simp, Below.refl _ _⟩
  case round =>
    obtain ⟨k, hk, rfl, hno, hb⟩ := hrel
    have HNO := hidq hno
    have HB := hidq hb
    by_cases hlt : k < n
    · obtain ⟨b1, o1, rfl⟩ := HP4.out (by omega)
      obtain ⟨x, hx⟩ : ∃ x, S[k]? = some x := ⟨_, List.getElem?_eq_getElem (by rw [HN.out]; exact hlt)⟩
      obtain ⟨c2, c3⟩ := Ps.at (U.out _ hb) hx
      have HX := hidq hx
      have CX := hidq (HC.out wr hb x (List.mem_of_getElem? hx))
      clear hx hno hb
      obtain ⟨y, z⟩ := x
      cases hp : p (y, z) with
      | true =>
        obtain rfl : r = true := by rw [← HR.out, List.any_eq_true]; exact ⟨_, List.mem_of_getElem? HX.out, hp⟩
        rw [hp] at CX
        clear hp
        go_wp2_with (first | (go_at_call 58; refine CX.out.mono ?_; rintro rr w2 ⟨rfl, hb2⟩; have B2 := hidq (below_trans HB.out hb2); clear hb2))
        go_ret
        exact ⟨⟨_, rfl, by simp⟩, B2.out⟩
      | false =>
        have HN2 := hidq (any_take_sp HX.out HNO.out hp)
        rw [hp] at CX
        clear hp
        go_wp2_with (first | (go_at_call 58; refine CX.out.mono ?_; rintro rr w2 ⟨rfl, hb2⟩; have B2 := hidq (below_trans HB.out hb2); clear hb2))
        go_roundw
        case rel => exact ⟨k + 1, by omega, by go_num, HN2.out, B2.out⟩
        case measure => simp [intOf]; omega
    · obtain rfl : r = false := by rw [← HR.out, ← HNO.out, List.take_of_length_le (by rw [HN.out]; omega)]
      clear hno hb
      go_wp2
      go_ret
      first | exact ⟨⟨_, rfl, by simp⟩, HB.out⟩ | exact ⟨rfl, HB.out⟩
set_option maxRecDepth 100000 in
theorem has_beg (p : Int × Int → Bool) (b0 : Nat) (S : List (Int × Int)) (v : Value) (w : World) (u : Ps w v S)
    (hc : ∀ X, Below w.heap.size w X → ∀ x ∈ S, Calls Try.prog 58 #[.agg #[.int .u64 x.1, .int .u64 x.2], .pointer (some ⟨b0, 0, none⟩)] X fun e w' => e = .returned (.bool (p x)) ∧ Below X.heap.size X w') (r : Bool) (hr : S.any p = r) :
    Calls Try.prog 55 #[v, (.func (.func 58) #[] #[.pointer (some ⟨b0, 0, none⟩)])] w fun e w' => e = .returned (.bool r) ∧ Below w.heap.size w w' := by
  have HI := hidq (idx_beg p b0 S v w u hc r hr)
  clear hc u hr
  go_enter Try.func55, Try.ntmps55
  cases r with
  | true =>
    go_wp2_with (first | (go_at_call 75; refine HI.out.mono ?_; rintro rr w2 ⟨⟨i, rfl, hi⟩, hb2⟩; rw [if_pos rfl] at hi))
    go_ret
    exact ⟨rfl, hb2⟩
  | false =>
    go_wp2_with (first | (go_at_call 75; refine HI.out.mono ?_; rintro rr w2 ⟨⟨i, rfl, hi⟩, hb2⟩; rw [if_neg (by decide)] at hi; subst hi))
    go_ret
    exact ⟨rfl, hb2⟩
theorem within11_any (i y z : Int) (b0 : Nat) (w : World) (hi : Bo w b0 (.int .u64 i) 28) :
    Calls Try.prog 56 #[.agg #[.int .u64 y, .int .u64 z], .pointer (some ⟨b0, 0, none⟩)] w fun e w' => e = .returned (.bool (decide (y ≤ i) && decide (i ≤ z))) ∧ Below w.heap.size w w' := by
  have f1 := hi.cell
  have f2 := (hi.alloc (.cells #[.int .u64 y, .int .u64 z] 43)).cell
  have hA := (Below.refl _ w).alloc (Nat.le_refl w.heap.size) (.cells #[.int .u64 y, .int .u64 z] 43)
  clear hi
  by_cases c1 : y ≤ i
  · by_cases c2 : i ≤ z
    · rw [decide_eq_true c1, decide_eq_true c2]
      go_enter Try.func56, Try.ntmps56
      go_wp2
      go_ret
      exact ⟨rfl, hA⟩
    · rw [decide_eq_true c1, decide_eq_false c2]
      go_enter Try.func56, Try.ntmps56
      go_wp2
      go_ret
      exact ⟨rfl, hA⟩
  · rw [decide_eq_false c1]
    go_enter Try.func56, Try.ntmps56
    go_wp2
    go_ret
    exact ⟨rfl, hA⟩
theorem within1_any (i : Int) (S : List (Int × Int)) (v : Value) (b0 : Nat) (w : World) (hv : Bo w b0 v 37) (hu : Ps w v S) :
    Calls Try.prog 54 #[.int .u64 i, .pointer (some ⟨b0, 0, none⟩)] w fun e w' => e = .returned (.bool (M.inS S i)) ∧ Below w.heap.size w w' := by
  have hmf : ∀ (fn : Fn) (first cap : Array Value) (w : World), (Instr.makeFunc fn first cap).run Try.prog w = .ok (.func fn first cap) w := fun _ _ _ _ => rfl
  have f2 := (hv.alloc (.cells #[.int .u64 i] 28)).cell
  have X := Bo.new w (.int .u64 i) 28
  have H := hidq (has_win (fun s => decide (s.1 ≤ i) && decide (i ≤ s.2)) w.heap.size S v _ (hu.alloc (.cells #[.int .u64 i] 28)) (fun Y hY x _ => within11_any i x.1 x.2 w.heap.size Y (X.below hY)) _ rfl)
  have hA := (Below.refl _ w).alloc (Nat.le_refl w.heap.size) (.cells #[.int .u64 i] 28)
  obtain ⟨r, hr⟩ : ∃ r, M.inS S i = r := ⟨_, rfl⟩
  have hr' : (S.any fun s => decide (s.1 ≤ i) && decide (i ≤ s.2)) = r := hr
  rw [hr]
  rw [hr'] at H
  obtain ⟨_, _, rfl, _⟩ := hu.form
  clear hr hr' hv hu X
  go_enter Try.func54, Try.ntmps54
  go_wp2_with (first | (go_at_call 55; refine H.out.mono ?_; rintro rr w2 ⟨rfl, hb2⟩))
  go_ret
  exact ⟨rfl, below_trans hA hb2⟩
theorem within_any (S : List (Int × Int)) (v : Value) (w : World) (hu : Ps w v S) :
    Calls Try.prog 32 #[v] w fun e w' => e = .returned (.func (.func 54) #[] #[.pointer (some ⟨w.heap.size, 0, none⟩)]) ∧ w' = w.alloc (.cells #[v] 37) := by
  have hmf : ∀ (fn : Fn) (first cap : Array Value) (w : World), (Instr.makeFunc fn first cap).run Try.prog w = .ok (.func fn first cap) w := fun _ _ _ _ => rfl
  obtain ⟨_, _, rfl, _⟩ := hu.form
  go_enter Try.func32, Try.ntmps32
  go_wp2
  go_ret
  exact ⟨rfl, rfl⟩
theorem meet11_any (T : List (Int × Int)) (v : Value) (y z : Int) (b0 b1 : Nat) (w : World) (h0 : Bo w b0 (.func (.func 54) #[] #[.pointer (some ⟨b1, 0, none⟩)]) 61) (h1 : Bo w b1 v 37) (hu : Ps w v T) :
    Calls Try.prog 58 #[.agg #[.int .u64 y, .int .u64 z], .pointer (some ⟨b0, 0, none⟩)] w fun e w' => e = .returned (.bool (M.inS T y)) ∧ Below w.heap.size w w' := by
  have f2 := (h0.alloc (.cells #[.int .u64 y, .int .u64 z] 43)).cell
  have hA := (Below.refl _ w).alloc (Nat.le_refl w.heap.size) (.cells #[.int .u64 y, .int .u64 z] 43)
  have H := hidq (within1_any y T v b1 _ (h1.alloc (.cells #[.int .u64 y, .int .u64 z] 43)) (hu.alloc _))
  clear h0 h1 hu
  go_enter Try.func58, Try.ntmps58
  go_wp2_with (first | (go_at_call 54; refine H.out.mono ?_; rintro rr w2 ⟨rfl, hb2⟩))
  go_ret
  exact ⟨rfl, below_trans hA hb2⟩
theorem meet1_any (S T : List (Int × Int)) (v u : Value) (b1 : Nat) (w : World) (h1 : Bo w b1 u 37) (hv : Ps w v S) (hu : Ps w u T) :
    Calls Try.prog 57 #[v, .func (.func 54) #[] #[.pointer (some ⟨b1, 0, none⟩)]] w fun e w' => e = .returned (.bool (M.begS S T)) ∧ Below w.heap.size w w' := by
  have hmf : ∀ (fn : Fn) (first cap : Array Value) (w : World), (Instr.makeFunc fn first cap).run Try.prog w = .ok (.func fn first cap) w := fun _ _ _ _ => rfl
  have X := Bo.new w (.func (.func 54) #[] #[.pointer (some ⟨b1, 0, none⟩)]) 61
  have hA := (Below.refl _ w).alloc (Nat.le_refl w.heap.size) (.cells #[.func (.func 54) #[] #[.pointer (some ⟨b1, 0, none⟩)]] 61)
  have H := hidq (has_beg (fun s => M.inS T s.1) w.heap.size S v _ (hv.alloc (.cells #[.func (.func 54) #[] #[.pointer (some ⟨b1, 0, none⟩)]] 61)) (fun Y hY x _ => meet11_any T u x.1 x.2 w.heap.size b1 Y (X.below hY) ((h1.alloc _).below hY) ((hu.alloc _).below hY)) _ rfl)
  obtain ⟨r, hr⟩ : ∃ r, M.begS S T = r := ⟨_, rfl⟩
  have hr' : (S.any fun s => M.inS T s.1) = r := hr
  rw [hr]
  rw [hr'] at H
  obtain ⟨_, _, rfl, _⟩ := hv.form
  clear hr hr' hv hu X h1
  go_enter Try.func57, Try.ntmps57
  go_wp2_with (first | (go_at_call 55; refine H.out.mono ?_; rintro rr w2 ⟨rfl, hb2⟩))
  go_ret
  exact ⟨rfl, below_trans hA hb2⟩
set_option maxRecDepth 100000 in
set_option maxHeartbeats 1000000 in
theorem meet_any8 (S T : List (Int × Int)) (v u : Value) (w : World) (hv : Ps w v S) (hu : Ps w u T) :
    Calls Try.prog 34 #[v, u] w fun e w' => e = .returned (.bool (M.metB S T)) ∧ Below w.heap.size w w' := by
  have HA := hidq (fun o => (Below.refl _ w).alloc (Nat.le_refl w.heap.size) o)
  have T1 := hidq trivial
  have T2 := hidq trivial
  have T3 := hidq trivial
  obtain ⟨_, _, rfl, _⟩ := hv.form
  obtain ⟨_, _, rfl, _⟩ := hu.form
  cases hb : M.begS S T
  · have e : M.metB S T = M.begS T S := by unfold M.metB; rw [hb]; rfl
    rw [e]
    clear e
    go_enter Try.func34, Try.ntmps34
    go_wp2_with (first | (go_at_call 32; (clear T1; refine (within_any T _ _ hu).mono ?_; rintro rr w1 ⟨rfl, hw1⟩; subst hw1)) | (go_at_call 32; clear T3; refine (within_any S _ _ hv2).mono ?_; rintro rr w3 ⟨rfl, hw3⟩; subst hw3) | (go_at_call 57; (clear T2; refine (meet1_any S T _ _ _ _ (Bo.new _ _ _) (hv.alloc _) (hu.alloc _)).mono ?_; rintro rr w2 ⟨rfl, hb2⟩; have hB2 := below_trans (HA.out _) hb2; have hv2 := (hv.alloc _).below hb2; have hu2 := (hu.alloc _).below hb2)) | (go_at_call 57; refine (meet1_any T S _ _ _ _ (Bo.new _ _ _) (hu2.alloc _) (hv2.alloc _)).mono ?_; rintro rr w4 ⟨rfl, hb4⟩; have hB4 := below_trans (below_one hB2) hb4))
    go_ret
    exact ⟨rfl, hB4⟩
  · have e : M.metB S T = true := by unfold M.metB; rw [hb]; rfl
    rw [e]
    clear e
    go_enter Try.func34, Try.ntmps34
    go_wp2_with (first | (go_at_call 32; (clear T1; refine (within_any T _ _ hu).mono ?_; rintro rr w1 ⟨rfl, hw1⟩; subst hw1)) | (go_at_call 32; clear T3; refine (within_any S _ _ hv2).mono ?_; rintro rr w3 ⟨rfl, hw3⟩; subst hw3) | (go_at_call 57; (clear T2; refine (meet1_any S T _ _ _ _ (Bo.new _ _ _) (hv.alloc _) (hu.alloc _)).mono ?_; rintro rr w2 ⟨rfl, hb2⟩; have hB2 := below_trans (HA.out _) hb2; have hv2 := (hv.alloc _).below hb2; have hu2 := (hu.alloc _).below hb2)) | (go_at_call 57; refine (meet1_any T S _ _ _ _ (Bo.new _ _ _) (hu2.alloc _) (hv2.alloc _)).mono ?_; rintro rr w4 ⟨rfl, hb4⟩; have hB4 := below_trans (below_one hB2) hb4))
    go_ret
    exact ⟨rfl, hB2⟩
end Go.Proofs.Ytedilnipfjggfaa
