/-
  What slices.ContainsFunc comes to with each of the closures of package sub; what within, meet, Has and Touch answer. Conditions: each theorem's own premises.
-/
import Derived.Test.YthmiekinjfaflaaGreatZA1
import Derived.Test.YthmiekinjfaflaaGreatZQ1
import Derived.Test.YthmiekinjfaflaaGreatZR1
import Derived.Deep.RegionHeld3
import Derived.Deep.QuietTactic
import Derived.BigQuiet
namespace Go.Proofs.YthmiekinjfaflaaGreat
open Go.RowKit
theorem any_take_sp {p : Int × Int → Bool} {S : List (Int × Int)} {k : Nat} {x : Int × Int} (h : S[k]? = some x) (h0 : (S.take k).any p = false) (hx : p x = false) : (S.take (k + 1)).any p = false := by
  obtain ⟨hk, e⟩ := List.getElem?_eq_some_iff.1 h
  rw [List.take_succ_eq_append_getElem hk, List.any_append, h0, e]
  simp [hx]
theorem Ps.at {W : World} {b off n cap : Nat} {S : List (Int × Int)} (h : Ps W (.slice (some ⟨b, off, none⟩) n cap) S) {k : Nat} {x : Int × Int} (hk : S[k]? = some x) : W.cell? ⟨b, off + k * 2, none⟩ = some (.int .u64 x.1) ∧ W.cell? ⟨b, off + k * 2 + 1, none⟩ = some (.int .u64 x.2) := by
  obtain ⟨ao, c, e, h2, _, _, h5⟩ := h
  obtain ⟨hl, hx⟩ := List.getElem?_eq_some_iff.1 hk
  cases e
  obtain ⟨b', o', e', _, h7⟩ := h5 (by omega)
  cases e'
  have := h7 k hl
  have hd : S[k]?.getD (0, 0) = x := by rw [hk]; rfl
  rw [hd] at this
  exact this
theorem Ps.form {W : World} {v : Value} {S : List (Int × Int)} (h : Ps W v S) : ∃ ao cap, v = .slice ao S.length cap ∧ S.length ≤ cap ∧ cap ≤ maxLen ∧ (0 < cap → ∃ b off, ao = some ⟨b, off, none⟩) := by
  obtain ⟨ao, cap, h1, h2, h3, _, h5⟩ := h
  exact ⟨ao, cap, h1, h2, h3, fun h0 => by obtain ⟨b, off, h6, _⟩ := h5 h0; exact ⟨b, off, h6⟩⟩
def Bo (W : World) (B : Nat) (v : Value) (t : TypeId) : Prop := W.heap[B]? = some (.cells #[v] t (0, 0))
theorem Bo.lt {W : World} {B : Nat} {v : Value} {t : TypeId} (h : Bo W B v t) : B < W.heap.size := (Array.getElem?_eq_some_iff.1 h).1
theorem Bo.cell {W : World} {B : Nat} {v : Value} {t : TypeId} (h : Bo W B v t) : W.cell? ⟨B, 0, none⟩ = some v := by
  have h' : W.heap[B]? = _ := h
  unfold World.cell?
  rw [h']; rfl
theorem Bo.new (W : World) (v : Value) (t : TypeId) : Bo (W.alloc (.cells #[v] t)) W.heap.size v t := heap_alloc_new W _
theorem Bo.alloc {W : World} {B : Nat} {v : Value} {t : TypeId} (h : Bo W B v t) (o : Obj) : Bo (W.alloc o) B v t := (Below.heap_alloc _ _ _ h.lt).trans h
theorem Bo.below {W W' : World} {B : Nat} {v : Value} {t : TypeId} (h : Bo W B v t) (hb : Below W.heap.size W W') : Bo W' B v t := (hb.block B h.lt).trans h
end Go.Proofs.YthmiekinjfaflaaGreat
namespace Go.Proofs.YthmiekinjfaflaaGreat
open Go.RowKit
theorem M.sh_no {h I J i : Int} (hn : ¬ (M.subB h I J = true ∧ M.leafE h i = 0)) : M.shE h I J i = 1 ∧ M.shV h I J i = false := by
  have e : M.shE h I J i = 1 := by
    unfold M.shE
    cases hs : M.subB h I J
    · rfl
    · by_cases hl : M.leafE h i = 0
      · exact absurd ⟨hs, hl⟩ hn
      · rw [decide_eq_false hl]; rfl
  exact ⟨e, by unfold M.shV; rw [e]; rfl⟩
theorem M.sh_yes {h I J i : Int} (hs : M.subB h I J = true) (hl : M.leafE h i = 0) : M.shE h I J i = 0 ∧ M.shV h I J i = M.inS (M.lvs h I J) i := by
  have e : M.shE h I J i = 0 := by unfold M.shE; rw [hs, decide_eq_true hl]; rfl
  exact ⟨e, by unfold M.shV; rw [e]; simp⟩
end Go.Proofs.YthmiekinjfaflaaGreat
namespace Go.Proofs.YthmiekinjfaflaaGreat
open Go.RowKit
theorem Bi.new1 (W : World) (o : Obj) (t : TypeId) (x y : Int) : Bi ((W.alloc o).alloc (.cells #[.int .u64 x, .int .u64 y] t)) (W.heap.size + 1) t x y := by
  have h := Bi.new (W.alloc o) t x y
  have e : (W.alloc o).heap.size = W.heap.size + 1 := by simp
  rw [e] at h; exact h
theorem M.to_no {h I J K L : Int} (hn : ¬ (M.subB h I J = true ∧ M.subB h K L = true)) : M.toE h I J K L = 1 ∧ M.toV h I J K L = false := by
  unfold M.toE M.toV
  cases hs : M.subB h I J
  · exact ⟨rfl, rfl⟩
  · cases ht : M.subB h K L
    · exact ⟨rfl, rfl⟩
    · exact absurd ⟨hs, ht⟩ hn
theorem M.to_yes {h I J K L : Int} (hs : M.subB h I J = true) (ht : M.subB h K L = true) : M.toE h I J K L = 0 ∧ M.toV h I J K L = M.metB (M.lvs h I J) (M.lvs h K L) := by
  unfold M.toE M.toV; rw [hs, ht]; exact ⟨rfl, rfl⟩
end Go.Proofs.YthmiekinjfaflaaGreat
namespace Go.Proofs.YthmiekinjfaflaaGreat
open Go.RowKit
set_option maxRecDepth 100000 in
set_option maxHeartbeats 400000 in
theorem rcheck8_any (h I J : Int) (w : World) (h0 : 0 ≤ I) (h1 : I ≤ 18446744073709551615) (h2 : 0 ≤ J) (h3 : J ≤ 18446744073709551615) :
    Calls Tryz.prog 37 #[.int .i64 h, .agg #[.int .u64 I, .int .u64 J]] w fun e w' => e = .returned (.int .i64 (M.subE h I J)) ∧ Below w.heap.size w w' := by
  have hA : Below w.heap.size w (w.alloc (.cells #[.int .u64 I, .int .u64 J] 46)) := (Below.refl _ w).alloc (Nat.le_refl _) _
  have T1 := hidq trivial
  have T2 := hidq trivial
  cases hI : M.okB h I
  · have E : M.subE h I J = 1 := by unfold M.subE M.subB; rw [hI]; rfl
    rw [E]
    go_enter Tryz.func37, Tryz.ntmps37
    go_wp2_with (first | (go_at_call 55; clear T1; refine (may_any _ _ _ (by omega) (by omega)).mono ?_; rintro e w' ⟨rfl, hw⟩; subst w'))
    go_ret
    exact ⟨rfl, hA⟩
  · by_cases hJ : J = 0
    · have E : M.subE h I J = 0 := by unfold M.subE M.subB; rw [hI, hJ]; rfl
      rw [E]
      subst hJ
      go_enter Tryz.func37, Tryz.ntmps37
      go_wp2_with (first | (go_at_call 55; clear T1; refine (may_any _ _ _ (by omega) (by omega)).mono ?_; rintro e w' ⟨rfl, hw⟩; subst w'))
      go_ret
      exact ⟨rfl, hA⟩
    · have hJ' : (J == 0) = false := by rw [beq_eq_false_iff_ne]; exact hJ
      cases hK : M.okB h J
      · have E : M.subE h I J = 1 := by unfold M.subE M.subB; rw [hI, hK, decide_eq_false hJ]; rfl
        rw [E]
        go_enter Tryz.func37, Tryz.ntmps37
        go_wp2_with (first | (go_at_call 55; clear T1; refine (may_any _ _ _ (by omega) (by omega)).mono ?_; rintro e w' ⟨rfl, hw⟩; subst w') | (go_at_call 55; clear T2; refine (may_any _ _ _ (by omega) (by omega)).mono ?_; rintro e w' ⟨rfl, hw⟩; subst w'))
        go_ret
        exact ⟨rfl, hA⟩
      · have j1 := (M.ok_of hK).2.2.1
        by_cases hIJ : I = J
        · have E : M.subE h I J = 1 := by unfold M.subE M.subB; rw [hI, hK, decide_eq_false hJ, decide_eq_true hIJ]; simp
          rw [E]
          subst hIJ
          go_enter Tryz.func37, Tryz.ntmps37
          go_wp2_with (first | (go_at_call 55; clear T1; refine (may_any _ _ _ (by omega) (by omega)).mono ?_; rintro e w' ⟨rfl, hw⟩; subst w') | (go_at_call 55; clear T2; refine (may_any _ _ _ (by omega) (by omega)).mono ?_; rintro e w' ⟨rfl, hw⟩; subst w'))
          go_ret
          exact ⟨rfl, hA⟩
        · have hJI : (J == I) = false := by rw [beq_eq_false_iff_ne]; exact fun e => hIJ e.symm
          have hJ2 : (J != 0) = true := by rw [bne_iff_ne]; exact hJ
          cases hab : M.abv I J
          · have E : M.subE h I J = 1 := by unfold M.subE M.subB; rw [hI, hK, hab, decide_eq_false hJ]; rfl
            rw [E]
            go_enter Tryz.func37, Tryz.ntmps37
            go_wp2_with (first | (go_at_call 55; clear T1; refine (may_any _ _ _ (by omega) (by omega)).mono ?_; rintro e w' ⟨rfl, hw⟩; subst w') | (go_at_call 55; clear T2; refine (may_any _ _ _ (by omega) (by omega)).mono ?_; rintro e w' ⟨rfl, hw⟩; subst w') | (go_at_call 60; refine (is_any _ _ _ (by omega) (by omega)).mono ?_; rintro e w2 ⟨rfl, hb2⟩; have hB2 := below_trans hA hb2))
            go_ret
            exact ⟨rfl, hB2⟩
          · have E : M.subE h I J = 0 := by unfold M.subE M.subB; rw [hI, hK, hab, decide_eq_false hJ, decide_eq_false hIJ]; rfl
            rw [E]
            go_enter Tryz.func37, Tryz.ntmps37
            go_wp2_with (first | (go_at_call 55; clear T1; refine (may_any _ _ _ (by omega) (by omega)).mono ?_; rintro e w' ⟨rfl, hw⟩; subst w') | (go_at_call 55; clear T2; refine (may_any _ _ _ (by omega) (by omega)).mono ?_; rintro e w' ⟨rfl, hw⟩; subst w') | (go_at_call 60; refine (is_any _ _ _ (by omega) (by omega)).mono ?_; rintro e w2 ⟨rfl, hb2⟩; have hB2 := below_trans hA hb2))
            go_ret
            exact ⟨rfl, hB2⟩
set_option maxRecDepth 100000 in
set_option maxHeartbeats 400000 in
theorem rstep8_any (h : Int) (w : World) :
    Calls Tryz.prog 77 #[.int .i64 h] w fun e w' => e = .returned (.tuple #[.int .i64 (M.stpV h), .int .i64 (M.stpE h)]) ∧ w' = w := by
  cases hh : M.htB h
  · have E : M.stpE h = 1 := by unfold M.stpE; rw [hh]; rfl
    have V : M.stpV h = 0 := by unfold M.stpV; rw [hh]; rfl
    rw [E, V]
    by_cases c1 : h < 1
    · clear hh
      go_enter Tryz.func77, Tryz.ntmps77
      go_wp2
      go_ret2
      exact ⟨rfl, rfl⟩
    · have c2 : 32 < h := by
        rcases Int.lt_or_le 32 h with hx | hx
        · exact hx
        · rw [M.ht_mk (by omega) hx] at hh; cases hh
      clear hh
      go_enter Tryz.func77, Tryz.ntmps77
      go_wp2
      go_ret2
      exact ⟨rfl, rfl⟩
  · have E : M.stpE h = 0 := by unfold M.stpE; rw [hh]; rfl
    have V : M.stpV h = M.stp h := by unfold M.stpV; rw [hh]; rfl
    obtain ⟨h1, h2⟩ := M.ht_of hh
    rw [E, V]
    have c1 : ¬ h < 1 := by omega
    have c2 : ¬ 32 < h := by omega
    obtain ⟨s1, s2, s3, s4, s5⟩ := M.stp_facts h1 h2
    generalize M.stp h = s at *
    have S3 := hid s3
    have S5 := hid s5
    clear s3 s5 hh
    go_enter Tryz.func77, Tryz.ntmps77
    go_wp2
    go_loopw [4] (fun i wr => ∃ k : Int, 1 ≤ k ∧ k ≤ s ∧ i = .int .i64 k ∧ wr = w) (fun i _ => (s - intOf i).toNat)
    case atStart => exact ⟨1, by omega, by omega, rfl, rfl⟩
    case round =>
      obtain ⟨k, hk1, hk2, rfl, hwr⟩ := hrel
      subst wr
      have q1 : k * k ≤ 6 * 6 := Int.mul_le_mul (by omega) (by omega) (by omega) (by omega)
      have q0 : 0 ≤ k * k := Int.mul_nonneg (by omega) (by omega)
      have q2 : wrap64 (k * k) = k * k := by unfold wrap64; omega
      by_cases hlt : k < s
      · have c1 := S5.out k hk1 hlt
        clear S3 S5
        go_wp2
        go_roundw
        case rel => exact ⟨k + 1, by omega, by omega, by go_num, trivial⟩
        case measure => simp [intOf]; omega
      · obtain rfl : k = s := by omega
        have c1 : ¬ (k * k < h) := by have := S3.out; omega
        clear S3 S5
        go_wp2
        go_ret2
        exact ⟨rfl, rfl⟩
def M.spc (h d : Int) : Bool := decide (d % M.stp h = 0) || decide (d = h)
set_option maxRecDepth 100000 in
set_option maxHeartbeats 400000 in
theorem special_any (h d : Int) (w : World) (h1 : 1 ≤ h) (h2 : h ≤ 32) (h3 : 0 ≤ d) (_h4 : d ≤ 100) :
    Calls Tryz.prog 56 #[.int .i64 h, .int .i64 d] w fun e w' => e = .returned (.bool (M.spc h d)) ∧ w' = w := by
  obtain ⟨s1, s2, _⟩ := M.stp_facts h1 h2
  have V : M.stpV h = M.stp h := by unfold M.stpV; rw [M.ht_mk h1 h2]; rfl
  have q2 : d.tmod (M.stp h) = d % M.stp h := tmod_pos' h3
  have m1 := Int.emod_nonneg d (show M.stp h ≠ 0 by omega)
  have m2 := Int.emod_lt_of_pos d (show 0 < M.stp h by omega)
  obtain ⟨r, hr⟩ : ∃ r, M.spc h d = r := ⟨_, rfl⟩
  have hr' := hr
  unfold M.spc at hr'
  rw [hr]
  clear hr
  generalize hst : M.stp h = s at *
  have qs : ¬ s = 0 := by omega
  by_cases c1 : d % s = 0
  · rw [decide_eq_true c1] at hr'
    obtain rfl : r = true := by rw [← hr']; rfl
    clear hr'
    go_enter Tryz.func56, Tryz.ntmps56
    go_wp2_with (first | (go_at_call 77; refine (rstep8_any _ _).mono ?_; rintro e w' ⟨rfl, hw⟩; subst w'))
    go_ret
    exact ⟨rfl, rfl⟩
  · have c1' : (d % s == 0) = false := by rw [beq_eq_false_iff_ne]; exact c1
    rw [decide_eq_false c1, Bool.false_or] at hr'
    have hr2 : (d == h) = r := hr'
    clear hr'
    go_enter Tryz.func56, Tryz.ntmps56
    go_wp2_with (first | (go_at_call 77; refine (rstep8_any _ _).mono ?_; rintro e w' ⟨rfl, hw⟩; subst w'))
    go_ret
    exact ⟨rfl, rfl⟩
/-- the least special depth above d -/
def M.nx2 (h d : Int) : Int := if M.nxt h d < h then M.nxt h d else h
theorem M.nx2_facts {h d : Int} (h1 : 1 ≤ h) (h2 : h ≤ 32) (hd : 0 ≤ d) (hd2 : d < h) : d < M.nx2 h d ∧ M.nx2 h d ≤ h ∧ M.spc h (M.nx2 h d) = true ∧ (∀ e, d < e → e < M.nx2 h d → M.spc h e = false) ∧ (∀ j, j ≤ h → (j ≤ M.nx2 h d ↔ ¬ M.nxt h d < j)) ∧ (∀ j, j ≤ h → M.nxt h d < j → M.nx2 h d = M.nxt h d) ∧ M.spc h d = decide (d % M.stp h = 0) := by
  obtain ⟨n1, n2, n3, n4⟩ := M.nxt_facts h1 h2 hd (by omega)
  unfold M.nx2 M.spc
  split
  · refine ⟨n1, by omega, by rw [decide_eq_true n3]; rfl, fun e e1 e2 => ?_, fun j j1 => by omega, fun j j1 j2 => rfl, ?_⟩
    · rw [decide_eq_false (n4 e e1 e2), decide_eq_false (by omega)]; rfl
    · rw [decide_eq_false (show ¬ d = h by omega), Bool.or_false]
  · refine ⟨hd2, by omega, by rw [decide_eq_true (show h = h from rfl), Bool.or_true], fun e e1 e2 => ?_, fun j j1 => by omega, fun j j1 j2 => by omega, ?_⟩
    · rw [decide_eq_false (n4 e e1 (by omega)), decide_eq_false (by omega)]; rfl
    · rw [decide_eq_false (show ¬ d = h by omega), Bool.or_false]
set_option maxRecDepth 100000 in
set_option maxHeartbeats 400000 in
theorem next_any (h d : Int) (w : World) (h1 : 1 ≤ h) (h2 : h ≤ 32) (h3 : 0 ≤ d) (h4 : d < h) :
    Calls Tryz.prog 58 #[.int .i64 h, .int .i64 d] w fun e w' => e = .returned (.int .i64 (M.nx2 h d)) ∧ w' = w := by
  obtain ⟨x1, x2, x3, x4, _⟩ := M.nx2_facts h1 h2 h3 h4
  generalize M.nx2 h d = n at *
  have X4 := hid x4
  clear x4
  go_enter Tryz.func58, Tryz.ntmps58
  go_wp2
  go_loopw [1] (fun i wr => ∃ k : Int, d < k ∧ k ≤ n ∧ i = .int .i64 k ∧ wr = w) (fun i _ => (n - intOf i).toNat)
  case atStart => exact ⟨d + 1, by omega, by omega, by go_num, rfl⟩
  case round =>
    obtain ⟨k, hk1, hk2, rfl, hwr⟩ := hrel
    subst wr
    by_cases hlt : k < n
    · have c1 := X4.out k hk1 hlt
      clear X4 x3
      go_wp2_with (first | (go_at_call 56; refine (special_any _ _ _ (by omega) (by omega) (by omega) (by omega)).mono ?_; rintro e w' ⟨rfl, hw⟩; subst w'))
      go_roundw
      case rel => exact ⟨k + 1, by omega, by omega, by go_num, trivial⟩
      case measure => simp [intOf]; omega
    · obtain rfl : k = n := by omega
      clear X4
      go_wp2_with (first | (go_at_call 56; refine (special_any _ _ _ (by omega) (by omega) (by omega) (by omega)).mono ?_; rintro e w' ⟨rfl, hw⟩; subst w'))
      go_ret
      exact ⟨rfl, rfl⟩
set_option maxRecDepth 100000 in
set_option maxHeartbeats 400000 in
theorem depth8_any (n : Int) (w : World) (h0 : 1 ≤ n) (h1 : n ≤ 18446744073709551615) :
    Calls Tryz.prog 57 #[.int .u64 n] w fun e w' => e = .returned (.int .i64 (M.dep n)) ∧ Below w.heap.size w w' := by
  obtain ⟨m, hm⟩ : ∃ m : Nat, M.dep n = m := ⟨(M.dep n).toNat, by have := M.dep_nonneg n; omega⟩
  have h63 := M.dep_63 h0 h1
  rw [hm] at h63
  rw [hm]
  go_enter Tryz.func57, Tryz.ntmps57
  go_wp2_with (first | (go_at_call 33; refine (chain_any m _ _ (by omega) (by omega) hm).mono ?_; rintro e w1 ⟨g, cap, rfl, _, hb1⟩))
  go_ret
  exact ⟨by simp, hb1⟩
end Go.Proofs.YthmiekinjfaflaaGreat
namespace Go.Proofs.YthmiekinjfaflaaGreat
open Go.RowKit
end Go.Proofs.YthmiekinjfaflaaGreat
namespace Go.Proofs.YthmiekinjfaflaaGreat
open Go.RowKit
/-- two spans have a leaf together -/
def M.two (s t : Int × Int) : Bool := decide (s.1 ≤ t.2) && decide (t.1 ≤ s.2)
end Go.Proofs.YthmiekinjfaflaaGreat
namespace Go.Proofs.YthmiekinjfaflaaGreat
open Go.RowKit
/-- a world of a class -/
structure Clq (G : World → Prop) where
  W : World
  ok : G W
theorem below_dq {W W' : World} {n : Nat} (h : Below n W W') (k : Nat) : Below n W (W'.drewN k) := ⟨h.os, h.tape, h.output, h.size, fun j hj => h.block j hj⟩
theorem below_d1q {W W' : World} {n : Nat} (h : Below n W W') : Below n W { W' with drawn := W'.drawn + 1 } := ⟨h.os, h.tape, h.output, h.size, fun j hj => h.block j hj⟩
theorem quietq {G : World → Prop} (hG : ∀ W W', G W → Below W.heap.size W W' → G W') {P : Program} {f : FuncId} {args : Array Value} (s : Clq G) {v : Value}
    (h : Calls P f args s.W fun e w' => e = .returned v ∧ Below s.W.heap.size s.W w') : Calls P f args s.W fun e w'' => e = .returned v ∧ ∃ t : Clq G, w'' = t.W :=
  h.mono fun _ w' ⟨he, hb⟩ => ⟨he, ⟨w', hG _ _ s.ok hb⟩, rfl⟩
theorem quietq_same {G : World → Prop} {P : Program} {f : FuncId} {args : Array Value} (s : Clq G) {v : Value}
    (h : Calls P f args s.W fun e w' => e = .returned v ∧ w' = s.W) : Calls P f args s.W fun e w'' => e = .returned v ∧ ∃ t : Clq G, w'' = t.W :=
  h.mono fun _ _ ⟨he, hb⟩ => ⟨he, s, hb⟩
theorem clq_of (w W : World) (R : World → Prop) (hR : ∀ X X', R X → Below X.heap.size X X' → R X') (h : R W) (hB : Below w.heap.size w W) :
    ∃ G : World → Prop, Hid (∀ X X', G X → Below X.heap.size X X' → G X') ∧ Hid (∀ s : Clq G, R s.W) ∧ Hid (∀ s : Clq G, Below w.heap.size w s.W) ∧ Hid (G { W with drawn := W.drawn + 1 }) ∧ Nonempty (Clq G) :=
  ⟨fun X => R X ∧ Below w.heap.size w X, fun _ _ h hb => ⟨hR _ _ h.1 hb, below_trans h.2 hb⟩, fun s => s.ok.1, fun s => s.ok.2, ⟨hR _ _ h (below_d1q (Below.refl _ _)), below_d1q hB⟩, ⟨⟨W, h, hB⟩⟩⟩
theorem regionq {G : World → Prop} {P : Program} {id : Nat} {Q : Exit → Act → World → Prop} {a : Act} {w : World} {l : List Oper} (hm : P.follows .mixedOrders = true) (hB : Region.lexB .any l.toArray = true) (hW : G { w with drawn := w.drawn + 1 })
    (h : wpQuiet P l.toArray (fun w' => ∃ s : Clq G, w' = s.W) (fun a' => ∀ w', (∃ s : Clq G, w' = s.W) → Q .normal a' w') l a) : (Code.region id l.toArray true).wp P Q a w :=
  wp_region_quiet (C := fun w' => ∃ s : Clq G, w' = s.W) hm hB ⟨⟨_, hW⟩, rfl⟩ h
theorem Clq.next {G : World → Prop} (hG : ∀ X X', G X → Below X.heap.size X X' → G X') (s : Clq G) : G { s.W with drawn := s.W.drawn + 1 } := hG _ _ s.ok (below_d1q (Below.refl _ _))
end Go.Proofs.YthmiekinjfaflaaGreat
