/-
  What slices.ContainsFunc comes to with each of the closures of package sub; what within, meet, Has and Touch answer. Conditions: each theorem's own premises.
-/
import Derived.Test.YthmiekinjfaflaaZA1
import Derived.Deep.RegionHeld3
namespace Go.Proofs.Ythmiekinjfaflaa
open Go.RowKit
theorem any_take_sp {p : Int × Int → Bool} {S : List (Int × Int)} {k : Nat} {x : Int × Int} (h : S[k]? = some x) (h0 : (S.take k).any p = false) (hx : p x = false) : (S.take (k + 1)).any p = false := by
  obtain ⟨hk, e⟩ := List.getElem?_eq_some_iff.1 h
  rw [List.take_succ_eq_append_getElem hk, List.any_append, h0, e]
  simp [hx]
theorem Ps.at {W : World} {b off n cap : Nat} {S : List (Int × Int)} (h : Ps W (.slice (some ⟨b, off, none⟩) n cap) S) {k : Nat} {x : Int × Int} (hk : S[k]? = some x) : W.cell? ⟨b, off + k * 2, none⟩ = some (.int .u64 x.1) ∧ W.cell? ⟨b, off + k * 2 + 1, none⟩ = some (.int .u64 x.2) := by
  obtain ⟨ao, c, e, h2, _, _, h5⟩ := h
  obtain ⟨hl, hx⟩ := List.getElem?_eq_some_iff.1 hk
  cases e
  obtain ⟨b', o', e', _, h7⟩ := h5 (by omega)
  cases e'
  have := h7 k hl
  have hd : S[k]?.getD (0, 0) = x := by rw [hk]; rfl
  rw [hd] at this
  exact this
theorem Ps.form {W : World} {v : Value} {S : List (Int × Int)} (h : Ps W v S) : ∃ ao cap, v = .slice ao S.length cap ∧ S.length ≤ cap ∧ cap ≤ maxLen ∧ (0 < cap → ∃ b off, ao = some ⟨b, off, none⟩) := by
  obtain ⟨ao, cap, h1, h2, h3, _, h5⟩ := h
  exact ⟨ao, cap, h1, h2, h3, fun h0 => by obtain ⟨b, off, h6, _⟩ := h5 h0; exact ⟨b, off, h6⟩⟩
def Bo (W : World) (B : Nat) (v : Value) (t : TypeId) : Prop := W.heap[B]? = some (.cells #[v] t (0, 0))
theorem Bo.lt {W : World} {B : Nat} {v : Value} {t : TypeId} (h : Bo W B v t) : B < W.heap.size := (Array.getElem?_eq_some_iff.1 h).1
theorem Bo.cell {W : World} {B : Nat} {v : Value} {t : TypeId} (h : Bo W B v t) : W.cell? ⟨B, 0, none⟩ = some v := by
  have h' : W.heap[B]? = _ := h
  unfold World.cell?
  rw [h']; rfl
theorem Bo.new (W : World) (v : Value) (t : TypeId) : Bo (W.alloc (.cells #[v] t)) W.heap.size v t := heap_alloc_new W _
theorem Bo.alloc {W : World} {B : Nat} {v : Value} {t : TypeId} (h : Bo W B v t) (o : Obj) : Bo (W.alloc o) B v t := (Below.heap_alloc _ _ _ h.lt).trans h
theorem Bo.below {W W' : World} {B : Nat} {v : Value} {t : TypeId} (h : Bo W B v t) (hb : Below W.heap.size W W') : Bo W' B v t := (hb.block B h.lt).trans h
set_option maxRecDepth 100000 in
set_option maxHeartbeats 4000000 in
theorem idx_win (p : Int × Int → Bool) (b0 : Nat) (S : List (Int × Int)) (v : Value) (w : World) (u : Ps w v S)
    (hc : ∀ X, Below w.heap.size w X → ∀ x ∈ S, Calls Try.prog 54 #[.agg #[.int .u64 x.1, .int .u64 x.2], .pointer (some ⟨b0, 0, none⟩)] X fun e w' => e = .returned (.bool (p x)) ∧ Below X.heap.size X w') (r : Bool) (hr : S.any p = r) :
    Calls Try.prog 67 #[v, (.func (.func 54) #[] #[.pointer (some ⟨b0, 0, none⟩)])] w fun e w' => (∃ i : Int, e = .returned (.int .i64 i) ∧ (if r = true then 0 ≤ i else i = -1)) ∧ Below w.heap.size w w' := by
  obtain ⟨a1, c1, rfl, hp1, hp2, hp4⟩ := u.form
  have hm : S.length ≤ maxLen := by omega
  unfold maxLen at hm
  have U := hidq (fun X (hb : Below w.heap.size w X) => u.below hb)
  have HC := hidq hc
  have HP4 := hidq hp4
  have HR := hidq hr
  clear hp4 u hc hr
  generalize hn : S.length = n at *
  have HN := hidq hn
  clear hn
  go_enter Try.func67, Try.ntmps67
  go_wp2
  go_loopw [8] (fun x wr => ∃ k : Nat, k ≤ n ∧ x = .int .i64 k ∧ (S.take k).any p = false ∧ Below w.heap.size w wr) (fun x _ => n - (intOf x).toNat)
  case atStart => exact ⟨0, by omega, rfl, by simp, Below.refl _ _⟩
  case round =>
    obtain ⟨k, hk, rfl, hno, hb⟩ := hrel
    have HNO := hidq hno
    have HB := hidq hb
    by_cases hlt : k < n
    · obtain ⟨b1, o1, rfl⟩ := HP4.out (by omega)
      obtain ⟨x, hx⟩ : ∃ x, S[k]? = some x := ⟨_, List.getElem?_eq_getElem (by rw [HN.out]; exact hlt)⟩
      obtain ⟨c2, c3⟩ := Ps.at (U.out _ hb) hx
      have HX := hidq hx
      have CX := hidq (HC.out wr hb x (List.mem_of_getElem? hx))
      clear hx hno hb
      obtain ⟨y, z⟩ := x
      cases hp : p (y, z) with
      | true =>
        obtain rfl : r = true := by rw [← HR.out, List.any_eq_true]; exact ⟨_, List.mem_of_getElem? HX.out, hp⟩
        rw [hp] at CX
        clear hp
        go_wp2_with (first | (go_at_call 54; refine CX.out.mono ?_; rintro rr w2 ⟨rfl, hb2⟩; have B2 := hidq (below_trans HB.out hb2); clear hb2))
        go_ret
        exact ⟨⟨_, rfl, by simp⟩, B2.out⟩
      | false =>
        have HN2 := hidq (any_take_sp HX.out HNO.out hp)
        rw [hp] at CX
        clear hp
        go_wp2_with (first | (go_at_call 54; refine CX.out.mono ?_; rintro rr w2 ⟨rfl, hb2⟩; have B2 := hidq (below_trans HB.out hb2); clear hb2))
        go_roundw
        case rel => exact ⟨k + 1, by omega, by go_num, HN2.out, B2.out⟩
        case measure => simp [intOf]; omega
    · obtain rfl : r = false := by rw [← HR.out, ← HNO.out, List.take_of_length_le (by rw [HN.out]; omega)]
      clear hno hb
      go_wp2
      go_ret
      first | exact ⟨⟨_, rfl, by simp⟩, HB.out⟩ | exact ⟨rfl, HB.out⟩
set_option maxRecDepth 100000 in
theorem has_win (p : Int × Int → Bool) (b0 : Nat) (S : List (Int × Int)) (v : Value) (w : World) (u : Ps w v S)
    (hc : ∀ X, Below w.heap.size w X → ∀ x ∈ S, Calls Try.prog 54 #[.agg #[.int .u64 x.1, .int .u64 x.2], .pointer (some ⟨b0, 0, none⟩)] X fun e w' => e = .returned (.bool (p x)) ∧ Below X.heap.size X w') (r : Bool) (hr : S.any p = r) :
    Calls Try.prog 53 #[v, (.func (.func 54) #[] #[.pointer (some ⟨b0, 0, none⟩)])] w fun e w' => e = .returned (.bool r) ∧ Below w.heap.size w w' := by
  have HI := hidq (idx_win p b0 S v w u hc r hr)
  clear hc u hr
  go_enter Try.func53, Try.ntmps53
  cases r with
  | true =>
    go_wp2_with (first | (go_at_call 67; refine HI.out.mono ?_; rintro rr w2 ⟨⟨i, rfl, hi⟩, hb2⟩; rw [if_pos rfl] at hi))
    go_ret
    exact ⟨rfl, hb2⟩
  | false =>
    go_wp2_with (first | (go_at_call 67; refine HI.out.mono ?_; rintro rr w2 ⟨⟨i, rfl, hi⟩, hb2⟩; rw [if_neg (by decide)] at hi; subst hi))
    go_ret
    exact ⟨rfl, hb2⟩
set_option maxRecDepth 100000 in
theorem within11_any (i y z : Int) (b0 : Nat) (w : World) (hi : Bo w b0 (.int .u64 i) 22) :
    Calls Try.prog 54 #[.agg #[.int .u64 y, .int .u64 z], .pointer (some ⟨b0, 0, none⟩)] w fun e w' => e = .returned (.bool (decide (y ≤ i) && decide (i ≤ z))) ∧ Below w.heap.size w w' := by
  have f1 := hi.cell
  have f2 := (hi.alloc (.cells #[.int .u64 y, .int .u64 z] 89)).cell
  have hA := (Below.refl _ w).alloc (Nat.le_refl w.heap.size) (.cells #[.int .u64 y, .int .u64 z] 89)
  clear hi
  by_cases c1 : y ≤ i
  · by_cases c2 : i ≤ z
    · rw [decide_eq_true c1, decide_eq_true c2]
      go_enter Try.func54, Try.ntmps54
      go_wp2
      go_ret
      exact ⟨rfl, hA⟩
    · rw [decide_eq_true c1, decide_eq_false c2]
      go_enter Try.func54, Try.ntmps54
      go_wp2
      go_ret
      exact ⟨rfl, hA⟩
  · rw [decide_eq_false c1]
    go_enter Try.func54, Try.ntmps54
    go_wp2
    go_ret
    exact ⟨rfl, hA⟩
set_option maxRecDepth 100000 in
theorem subwithin1_any (i : Int) (S : List (Int × Int)) (v : Value) (b0 : Nat) (w : World) (hv : Bo w b0 v 69) (hu : Ps w v S) :
    Calls Try.prog 52 #[.int .u64 i, .pointer (some ⟨b0, 0, none⟩)] w fun e w' => e = .returned (.bool (M.inS S i)) ∧ Below w.heap.size w w' := by
  have hmf : ∀ (fn : Fn) (first cap : Array Value) (w : World), (Instr.makeFunc fn first cap).run Try.prog w = .ok (.func fn first cap) w := fun _ _ _ _ => rfl
  have f2 := (hv.alloc (.cells #[.int .u64 i] 22)).cell
  have X := Bo.new w (.int .u64 i) 22
  have H := hidq (has_win (fun s => decide (s.1 ≤ i) && decide (i ≤ s.2)) w.heap.size S v _ (hu.alloc (.cells #[.int .u64 i] 22)) (fun Y hY x _ => within11_any i x.1 x.2 w.heap.size Y (X.below hY)) _ rfl)
  have hA := (Below.refl _ w).alloc (Nat.le_refl w.heap.size) (.cells #[.int .u64 i] 22)
  obtain ⟨r, hr⟩ : ∃ r, M.inS S i = r := ⟨_, rfl⟩
  have hr' : (S.any fun s => decide (s.1 ≤ i) && decide (i ≤ s.2)) = r := hr
  rw [hr]
  rw [hr'] at H
  obtain ⟨_, _, rfl, _⟩ := hu.form
  clear hr hr' hv hu X
  go_enter Try.func52, Try.ntmps52
  go_wp2_with (first | (go_at_call 53; refine H.out.mono ?_; rintro rr w2 ⟨rfl, hb2⟩))
  go_ret
  exact ⟨rfl, below_trans hA hb2⟩
set_option maxRecDepth 100000 in
theorem subwithin_any (S : List (Int × Int)) (v : Value) (w : World) (hu : Ps w v S) :
    Calls Try.prog 32 #[v] w fun e w' => e = .returned (.func (.func 52) #[] #[.pointer (some ⟨w.heap.size, 0, none⟩)]) ∧ w' = w.alloc (.cells #[v] 69) := by
  have hmf : ∀ (fn : Fn) (first cap : Array Value) (w : World), (Instr.makeFunc fn first cap).run Try.prog w = .ok (.func fn first cap) w := fun _ _ _ _ => rfl
  obtain ⟨_, _, rfl, _⟩ := hu.form
  go_enter Try.func32, Try.ntmps32
  go_wp2
  go_ret
  exact ⟨rfl, rfl⟩
end Go.Proofs.Ythmiekinjfaflaa
namespace Go.Proofs.Ythmiekinjfaflaa
open Go.RowKit
theorem M.sh_no {h I J i : Int} (hn : ¬ (M.subB h I J = true ∧ M.leafE h i = 0)) : M.shE h I J i = 1 ∧ M.shV h I J i = false := by
  have e : M.shE h I J i = 1 := by
    unfold M.shE
    cases hs : M.subB h I J
    · rfl
    · by_cases hl : M.leafE h i = 0
      · exact absurd ⟨hs, hl⟩ hn
      · rw [decide_eq_false hl]; rfl
  exact ⟨e, by unfold M.shV; rw [e]; rfl⟩
theorem M.sh_yes {h I J i : Int} (hs : M.subB h I J = true) (hl : M.leafE h i = 0) : M.shE h I J i = 0 ∧ M.shV h I J i = M.inS (M.lvs h I J) i := by
  have e : M.shE h I J i = 0 := by unfold M.shE; rw [hs, decide_eq_true hl]; rfl
  exact ⟨e, by unfold M.shV; rw [e]; simp⟩
set_option maxRecDepth 100000 in
set_option maxHeartbeats 1000000 in
theorem has8_any (h I J i : Int) (w : World) (h0 : 0 ≤ I) (h1 : I ≤ 18446744073709551615) (h2 : 0 ≤ J) (h3 : J ≤ 18446744073709551615) (h4 : 0 ≤ i) (h5 : i ≤ 18446744073709551615) :
    Calls Try.prog 16 #[.int .i64 h, .agg #[.int .u64 I, .int .u64 J], .int .u64 i] w fun e w' => e = .returned (.tuple #[.bool (M.shV h I J i), .int .i64 (M.shE h I J i)]) ∧ Below w.heap.size w w' := by
  have HA := hidq (fun o => (Below.refl _ w).alloc (Nat.le_refl w.heap.size) o)
  cases hs : M.subB h I J
  · have E := M.subE_no hs
    obtain ⟨e1, e2⟩ := M.sh_no (h := h) (I := I) (J := J) (i := i) (by rw [hs]; simp)
    rw [e1, e2]
    clear hs e1 e2
    go_enter Try.func16, Try.ntmps16
    go_wp2_with (first | (go_at_call 31; refine (check8_any h I J _ (by omega) (by omega) (by omega) (by omega)).mono ?_; rintro e w1 ⟨rfl, hb1⟩; have X1 := (Bi.new w 35 I J).below hb1; obtain ⟨X1a, X1b⟩ := X1.facts; have hB1 := below_trans (HA.out _) hb1))
    go_ret2
    exact ⟨rfl, hB1⟩
  · have E := M.subE_yes hs
    by_cases hl : M.leafE h i = 0
    · obtain ⟨e1, e2⟩ := M.sh_yes hs hl
      rw [e1, e2]
      clear e1 e2
      obtain ⟨r, hr⟩ : ∃ r, M.inS (M.lvs h I J) i = r := ⟨_, rfl⟩
      rw [hr]
      go_enter Try.func16, Try.ntmps16
      go_wp2_with (first | (go_at_call 31; refine (check8_any h I J _ (by omega) (by omega) (by omega) (by omega)).mono ?_; rintro e w1 ⟨rfl, hb1⟩; have X1 := (Bi.new w 35 I J).below hb1; obtain ⟨X1a, X1b⟩ := X1.facts; have hB1 := below_trans (HA.out _) hb1) | (go_at_call 19; refine (leaf_any _ _ _ (by omega) (by omega)).mono ?_; rintro e w' ⟨rfl, hw⟩; subst w') | (go_at_call 33; refine (spansOf_any h I J _ hs (by omega)).mono ?_; rintro e w2 ⟨v, rfl, hp2, hb2⟩; have hB2 := below_trans hB1 hb2; obtain ⟨_, _, rfl, _⟩ := hp2.form) | (go_at_call 32; refine (subwithin_any _ _ _ hp2).mono ?_; rintro rr w3 ⟨rfl, hw3⟩; subst hw3) | (go_at_call 52; refine (subwithin1_any _ _ _ _ _ (Bo.new _ _ _) (hp2.alloc _)).mono ?_; rintro rr w4 ⟨rfl, hb4⟩; have hB4 := below_trans (below_one hB2) hb4))
      go_ret2
      exact ⟨rfl, hB4⟩
    · obtain ⟨e1, e2⟩ := M.sh_no (h := h) (I := I) (J := J) (i := i) (fun hx => hl hx.2)
      rw [e1, e2]
      clear hs e1 e2
      go_enter Try.func16, Try.ntmps16
      go_wp2_with (first | (go_at_call 31; refine (check8_any h I J _ (by omega) (by omega) (by omega) (by omega)).mono ?_; rintro e w1 ⟨rfl, hb1⟩; have X1 := (Bi.new w 35 I J).below hb1; obtain ⟨X1a, X1b⟩ := X1.facts; have hB1 := below_trans (HA.out _) hb1) | (go_at_call 19; refine (leaf_any _ _ _ (by omega) (by omega)).mono ?_; rintro e w' ⟨rfl, hw⟩; subst w'))
      go_ret2
      exact ⟨rfl, hB1⟩
end Go.Proofs.Ythmiekinjfaflaa
namespace Go.Proofs.Ythmiekinjfaflaa
open Go.RowKit
theorem Bi.new1 (W : World) (o : Obj) (t : TypeId) (x y : Int) : Bi ((W.alloc o).alloc (.cells #[.int .u64 x, .int .u64 y] t)) (W.heap.size + 1) t x y := by
  have h := Bi.new (W.alloc o) t x y
  have e : (W.alloc o).heap.size = W.heap.size + 1 := by simp
  rw [e] at h; exact h
theorem M.to_no {h I J K L : Int} (hn : ¬ (M.subB h I J = true ∧ M.subB h K L = true)) : M.toE h I J K L = 1 ∧ M.toV h I J K L = false := by
  unfold M.toE M.toV
  cases hs : M.subB h I J
  · exact ⟨rfl, rfl⟩
  · cases ht : M.subB h K L
    · exact ⟨rfl, rfl⟩
    · exact absurd ⟨hs, ht⟩ hn
theorem M.to_yes {h I J K L : Int} (hs : M.subB h I J = true) (ht : M.subB h K L = true) : M.toE h I J K L = 0 ∧ M.toV h I J K L = M.metB (M.lvs h I J) (M.lvs h K L) := by
  unfold M.toE M.toV; rw [hs, ht]; exact ⟨rfl, rfl⟩
end Go.Proofs.Ythmiekinjfaflaa
