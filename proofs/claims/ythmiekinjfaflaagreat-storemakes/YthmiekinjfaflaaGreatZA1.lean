/-
  What sub.Check, spansOf, Leaves, Less, stepOf and Step answer at every input; a box of two numbers. Conditions: the numbers fit their kinds; of spansOf: the subset may be.
-/
import Derived.Test.YthmiekinjfaflaaGreatZH1
import Derived.Test.YthmiekinjfaflaaGreatZLM
import Derived.Test.YthmiekinjfaflaaGreatZQ1
import Derived.Test.YthmiekinjfaflaaGreatZW1
namespace Go.Proofs.YthmiekinjfaflaaGreat
open Go.RowKit
/-- a box of two numbers -/
def Bi (W : World) (B : Nat) (t : TypeId) (x y : Int) : Prop := W.heap[B]? = some (.cells #[.int .u64 x, .int .u64 y] t (0, 0))
theorem Bi.lt {W : World} {B : Nat} {t : TypeId} {x y : Int} (h : Bi W B t x y) : B < W.heap.size := (Array.getElem?_eq_some_iff.1 h).1
theorem Bi.facts {W : World} {B : Nat} {t : TypeId} {x y : Int} (h : Bi W B t x y) : W.cell? ⟨B, 0, none⟩ = some (.int .u64 x) ∧ W.cell? ⟨B, 1, none⟩ = some (.int .u64 y) := by
  have h' : W.heap[B]? = _ := h
  refine ⟨?_, ?_⟩
  · simp [World.cell?, h']
  · simp [World.cell?, h']
theorem Bi.new (W : World) (t : TypeId) (x y : Int) : Bi (W.alloc (.cells #[.int .u64 x, .int .u64 y] t)) W.heap.size t x y := by
  show (W.heap.push _)[W.heap.size]? = _
  simp
theorem Bi.alloc {W : World} {B : Nat} {t : TypeId} {x y : Int} (h : Bi W B t x y) (o : Obj) : Bi (W.alloc o) B t x y := (Below.heap_alloc _ _ _ h.lt).trans h
theorem Bi.drewN {W : World} {B : Nat} {t : TypeId} {x y : Int} (h : Bi W B t x y) (n : Nat) : Bi (W.drewN n) B t x y := h
theorem Bi.below {W W' : World} {B : Nat} {t : TypeId} {x y : Int} (h : Bi W B t x y) (hb : Below W.heap.size W W') : Bi W' B t x y := (hb.block B h.lt).trans h
set_option maxRecDepth 100000 in
set_option maxHeartbeats 400000 in
theorem check8_any (h I J : Int) (w : World) (h0 : 0 ≤ I) (h1 : I ≤ 18446744073709551615) (h2 : 0 ≤ J) (h3 : J ≤ 18446744073709551615) :
    Calls Tryz.prog 53 #[.int .i64 h, .agg #[.int .u64 I, .int .u64 J]] w fun e w' => e = .returned (.int .i64 (M.subE h I J)) ∧ Below w.heap.size w w' := by
  have hA : Below w.heap.size w (w.alloc (.cells #[.int .u64 I, .int .u64 J] 46)) := (Below.refl _ w).alloc (Nat.le_refl _) _
  cases hI : M.okB h I
  · have C := M.eChk_nok (h := h) (n := I) (by rw [hI]; decide)
    have E : M.subE h I J = 1 := by unfold M.subE M.subB; rw [hI]; rfl
    rw [E]
    go_enter Tryz.func53, Tryz.ntmps53
    go_wp2_with (first | (go_at_call 66; refine (nodechk_any _ _ _ (by omega) (by omega)).mono ?_; rintro e w' ⟨rfl, hw⟩; subst w') | (go_at_call 76; refine (above_any _ _ _ _ (by omega) (by omega) (by omega) (by omega)).mono ?_; rintro e w' ⟨rfl, hw⟩; subst w'))
    go_ret
    exact ⟨rfl, hA⟩
  · have C := M.eChk_ok hI
    by_cases hJ : J = 0
    · have E : M.subE h I J = 0 := by unfold M.subE M.subB; rw [hI, hJ]; rfl
      rw [E]
      subst hJ
      go_enter Tryz.func53, Tryz.ntmps53
      go_wp2_with (first | (go_at_call 66; refine (nodechk_any _ _ _ (by omega) (by omega)).mono ?_; rintro e w' ⟨rfl, hw⟩; subst w') | (go_at_call 76; refine (above_any _ _ _ _ (by omega) (by omega) (by omega) (by omega)).mono ?_; rintro e w' ⟨rfl, hw⟩; subst w'))
      go_ret
      exact ⟨rfl, hA⟩
    · cases hK : M.okB h J
      · have C2 : M.eBoth h I J = 1 := M.eBoth_no (by rw [hK]; simp)
        have E : M.subE h I J = 1 := by unfold M.subE M.subB; rw [hI, hK, decide_eq_false hJ]; rfl
        rw [E]
        clear hI hK
        go_enter Tryz.func53, Tryz.ntmps53
        go_wp2_with (first | (go_at_call 66; refine (nodechk_any _ _ _ (by omega) (by omega)).mono ?_; rintro e w' ⟨rfl, hw⟩; subst w') | (go_at_call 76; refine (above_any _ _ _ _ (by omega) (by omega) (by omega) (by omega)).mono ?_; rintro e w' ⟨rfl, hw⟩; subst w'))
        go_ret
        exact ⟨rfl, hA⟩
      · have C2 : M.eBoth h I J = 0 := M.eBoth_ok hI hK
        have C3 : M.abvV h I J = M.abv I J := M.abvV_ok hI hK
        cases hab : M.abv I J
        · have E : M.subE h I J = 1 := by unfold M.subE M.subB; rw [hI, hK, hab, decide_eq_false hJ]; rfl
          rw [E]
          rw [hab] at C3
          clear hI hK hab
          go_enter Tryz.func53, Tryz.ntmps53
          go_wp2_with (first | (go_at_call 66; refine (nodechk_any _ _ _ (by omega) (by omega)).mono ?_; rintro e w' ⟨rfl, hw⟩; subst w') | (go_at_call 76; refine (above_any _ _ _ _ (by omega) (by omega) (by omega) (by omega)).mono ?_; rintro e w' ⟨rfl, hw⟩; subst w'))
          go_ret
          exact ⟨rfl, hA⟩
        · rw [hab] at C3
          by_cases hIJ : I = J
          · have E : M.subE h I J = 1 := by unfold M.subE M.subB; rw [hI, hK, hab, decide_eq_false hJ, decide_eq_true hIJ]; rfl
            rw [E]
            subst hIJ
            clear hI hK hab
            go_enter Tryz.func53, Tryz.ntmps53
            go_wp2_with (first | (go_at_call 66; refine (nodechk_any _ _ _ (by omega) (by omega)).mono ?_; rintro e w' ⟨rfl, hw⟩; subst w') | (go_at_call 76; refine (above_any _ _ _ _ (by omega) (by omega) (by omega) (by omega)).mono ?_; rintro e w' ⟨rfl, hw⟩; subst w'))
            go_ret
            exact ⟨rfl, hA⟩
          · have E : M.subE h I J = 0 := by unfold M.subE M.subB; rw [hI, hK, hab, decide_eq_false hJ, decide_eq_false hIJ]; rfl
            rw [E]
            clear hI hK hab
            go_enter Tryz.func53, Tryz.ntmps53
            go_wp2_with (first | (go_at_call 66; refine (nodechk_any _ _ _ (by omega) (by omega)).mono ?_; rintro e w' ⟨rfl, hw⟩; subst w') | (go_at_call 76; refine (above_any _ _ _ _ (by omega) (by omega) (by omega) (by omega)).mono ?_; rintro e w' ⟨rfl, hw⟩; subst w'))
            go_ret
            exact ⟨rfl, hA⟩
set_option maxRecDepth 100000 in
set_option maxHeartbeats 400000 in
theorem stepOf_any (h : Int) (w : World) (h1 : 1 ≤ h) (h2 : h ≤ 32) :
    Calls Tryz.prog 94 #[.int .i64 h] w fun e w' => e = .returned (.int .i64 (M.stp h)) ∧ w' = w := by
  obtain ⟨s1, s2, s3, s4, s5⟩ := M.stp_facts h1 h2
  generalize M.stp h = s at *
  have S3 := hid s3
  have S5 := hid s5
  clear s3 s5
  go_enter Tryz.func94, Tryz.ntmps94
  go_wp2
  go_loopw [3] (fun i wr => ∃ k : Int, 1 ≤ k ∧ k ≤ s ∧ i = .int .i64 k ∧ wr = w) (fun i _ => (s - intOf i).toNat)
  case atStart => exact ⟨1, by omega, by omega, rfl, rfl⟩
  case round =>
    obtain ⟨k, hk1, hk2, rfl, hwr⟩ := hrel
    subst wr
    have q1 : k * k ≤ 6 * 6 := Int.mul_le_mul (by omega) (by omega) (by omega) (by omega)
    have q0 : 0 ≤ k * k := Int.mul_nonneg (by omega) (by omega)
    have q2 : wrap64 (k * k) = k * k := by unfold wrap64; omega
    by_cases hlt : k < s
    · have c1 := S5.out k hk1 hlt
      clear S3 S5
      go_wp2
      go_roundw
      case rel => exact ⟨k + 1, by omega, by omega, by go_num, trivial⟩
      case measure => simp [intOf]; omega
    · obtain rfl : k = s := by omega
      have c1 : ¬ (k * k < h) := by have := S3.out; omega
      clear S3 S5
      go_wp2
      go_ret
      exact ⟨rfl, rfl⟩
end Go.Proofs.YthmiekinjfaflaaGreat
namespace Go.Proofs.YthmiekinjfaflaaGreat
open Go.RowKit
def elSub : Elt Tryz.prog (Int × Int) where
  st := 41
  et := 46
  enc := fun x => [.int .u64 x.1, .int .u64 x.2]
  size := 2
  bytes := 16
  zero := .agg #[.int .u64 0, .int .u64 0]
  ok := fun x => 0 ≤ x.1 ∧ x.1 ≤ 18446744073709551615 ∧ 0 ≤ x.2 ∧ x.2 ≤ 18446744073709551615
  pos := by decide
  small := by decide
  len := fun _ => rfl
  one := by intro x u hu; simp at hu; rcases hu with rfl | rfl <;> rfl
  ht := Tryz.underlying41
  info := by kernel_rfl
  zs := rfl
abbrev Ss := Sl elSub
theorem Ss.one (w : World) (t : TypeId) (x y : Int) (h : 0 ≤ x ∧ x ≤ 18446744073709551615 ∧ 0 ≤ y ∧ y ≤ 18446744073709551615) : Ss (w.alloc (.cells #[.int .u64 x, .int .u64 y] t)) (.slice (some ⟨w.heap.size, 0, none⟩) 1 1) [(x, y)] := by
  refine ⟨_, _, rfl, by simp, by unfold maxLen; simp, by intro z hz; simp at hz; subst hz; exact h, fun _ => ⟨w.heap.size, 0, rfl, by simp, fun j hj => ?_⟩⟩
  rw [cell_at]
  match j, hj with
  | 0, _ => rfl
  | 1, _ => rfl
theorem Ss.two (w : World) (t : TypeId) (x y z u : Int) (h : 0 ≤ x ∧ x ≤ 18446744073709551615 ∧ 0 ≤ y ∧ y ≤ 18446744073709551615) (k : 0 ≤ z ∧ z ≤ 18446744073709551615 ∧ 0 ≤ u ∧ u ≤ 18446744073709551615) : Ss (w.alloc (.cells #[.int .u64 x, .int .u64 y, .int .u64 z, .int .u64 u] t)) (.slice (some ⟨w.heap.size, 0, none⟩) 2 2) [(x, y), (z, u)] := by
  refine ⟨_, _, rfl, by simp, by unfold maxLen; simp, by intro a ha; simp at ha; rcases ha with rfl | rfl; exact h; exact k, fun _ => ⟨w.heap.size, 0, rfl, by simp, fun j hj => ?_⟩⟩
  rw [cell_at]
  match j, hj with
  | 0, _ => rfl
  | 1, _ => rfl
  | 2, _ => rfl
  | 3, _ => rfl
theorem Ps.oneq (w : World) (x y : Int) (e : TypeId) (B : Nat) (hB : w.heap.size = B) (h0 : 0 ≤ x ∧ x ≤ 18446744073709551615 ∧ 0 ≤ y ∧ y ≤ 18446744073709551615) : Ps (w.alloc (.cells #[.int .u64 x, .int .u64 y] e)) (.slice (some ⟨B, 0, none⟩) 1 1) [(x, y)] := by subst hB; exact Ps.one w x y e h0
theorem M.subE_yes {h I J : Int} (hs : M.subB h I J = true) : M.subE h I J = 0 := by unfold M.subE; rw [hs]; rfl
theorem M.subE_no {h I J : Int} (hs : M.subB h I J = false) : M.subE h I J = 1 := by unfold M.subE; rw [hs]; rfl
theorem tdiv_pos' {d s : Int} (hd : 0 ≤ d) : d.tdiv s = d / s := Int.tdiv_eq_ediv_of_nonneg hd
theorem tmod_pos' {d s : Int} (hd : 0 ≤ d) : d.tmod s = d % s := Int.tmod_eq_emod_of_nonneg hd
set_option maxRecDepth 100000 in
set_option maxHeartbeats 1000000 in
theorem cutOf_any (h I J : Int) (w : World) (hs : M.subB h I J = true) (hJ : J ≠ 0) :
    Calls Tryz.prog 83 #[.int .i64 h, .agg #[.int .u64 I, .int .u64 J]] w fun e w' => e = .returned (.tuple #[.int .u64 (M.cutV h I J), .bool (M.cutB h I J)]) ∧ Below w.heap.size w w' := by
  have hA : Below w.heap.size w (w.alloc (.cells #[.int .u64 I, .int .u64 J] 46)) := (Below.refl _ w).alloc (Nat.le_refl _) _
  have hI := (M.sub_of hs).1
  obtain ⟨hh1, hh2, i1, _⟩ := M.ok_of hI
  have ilt := M.ok_lt hI
  obtain ⟨g0, _, _, gd, gh, _⟩ := M.sub_in hs hJ
  have jlt := M.ok_lt g0
  have j1 := (M.ok_of g0).2.2.1
  have E1 := M.eChk_ok hI
  have E2 := M.eChk_ok g0
  have D1 := M.depV_ok hI
  have D2 := M.depV_ok g0
  have d0 := M.dep_nonneg I
  obtain ⟨s1, s2, _⟩ := M.stp_facts hh1 hh2
  obtain ⟨n1, n2, _, _⟩ := M.nxt_facts (d := M.dep I) hh1 hh2 d0 (by omega)
  have m1 := Int.emod_nonneg (M.dep I) (show M.stp h ≠ 0 by omega)
  have q1 : (M.dep I).tdiv (M.stp h) = M.dep I / M.stp h := tdiv_pos' d0
  have q2 : (M.dep I).tmod (M.stp h) = M.dep I % M.stp h := tmod_pos' d0
  have q3 : 0 ≤ M.dep I / M.stp h := Int.ediv_nonneg d0 (by omega)
  have q4 : M.dep I / M.stp h ≤ M.dep I := Int.ediv_le_self _ d0
  have q5 : (M.dep I / M.stp h + 1) * M.stp h = M.nxt h (M.dep I) := rfl
  have q6 : wrap64 ((M.dep I / M.stp h + 1) * M.stp h) = M.nxt h (M.dep I) := by rw [q5]; unfold wrap64; omega
  have HU := hid (show M.nxt h (M.dep I) < M.dep J → M.upE h J (M.nxt h (M.dep I)) = 0 ∧ M.upV h J (M.nxt h (M.dep I)) = M.up J (M.nxt h (M.dep I)) from fun hx => by
    have e : M.upE h J (M.nxt h (M.dep I)) = 0 := by unfold M.upE; rw [if_pos g0, if_pos (by omega)]
    exact ⟨e, by unfold M.upV; rw [if_pos e]⟩)
  have HC : Hid (M.cutB h I J = (!decide (M.dep I % M.stp h = 0) && decide (M.nxt h (M.dep I) < M.dep J))) := by show _ = _; rfl
  have HV : Hid (M.cutV h I J = if M.cutB h I J then M.up J (M.nxt h (M.dep I)) else 0) := by show _ = _; rfl
  have T1 := hid trivial
  have T2 := hid trivial
  clear hs hI g0 q5
  generalize M.nxt h (M.dep I) = nx at *
  generalize hst : M.stp h = s at *
  generalize M.dep I = di at *
  generalize M.dep J = dj at *
  have qs : ¬ s = 0 := by omega
  by_cases c1 : di % s = 0
  · have B : M.cutB h I J = false := by rw [HC.out, decide_eq_true c1]; rfl
    have V : M.cutV h I J = 0 := by rw [HV.out, B]; rfl
    rw [B, V]
    clear HC HV B V HU
    go_enter Tryz.func83, Tryz.ntmps83
    go_wp2_with (first | (go_at_call 94; refine (stepOf_any _ _ (by omega) (by omega)).mono ?_; rintro e w' ⟨rfl, hw⟩; subst w') | (go_at_call 95; clear T1; refine (depth_any _ I _ (by omega) (by omega)).mono ?_; rintro e w' ⟨rfl, hw⟩; subst w') | (go_at_call 95; clear T2; refine (depth_any _ J _ (by omega) (by omega)).mono ?_; rintro e w' ⟨rfl, hw⟩; subst w') | (go_at_call 47; refine (up_any _ J _ _ (by omega) (by omega)).mono ?_; rintro e w' ⟨rfl, hw⟩; subst w'))

    go_ret2
    exact ⟨rfl, hA⟩
  · have c1' : (di % s == 0) = false := by rw [beq_eq_false_iff_ne]; exact c1
    by_cases c2 : nx < dj
    · have B : M.cutB h I J = true := by rw [HC.out, decide_eq_false c1, decide_eq_true c2]; rfl
      have V : M.cutV h I J = M.up J nx := by rw [HV.out, B]; rfl
      obtain ⟨U1, U2⟩ := HU.out c2
      rw [B, V]
      have c3 : ¬ dj ≤ nx := by omega
      clear HC HV B V HU
      go_enter Tryz.func83, Tryz.ntmps83
      go_wp2_with (first | (go_at_call 94; refine (stepOf_any _ _ (by omega) (by omega)).mono ?_; rintro e w' ⟨rfl, hw⟩; subst w') | (go_at_call 95; clear T1; refine (depth_any _ I _ (by omega) (by omega)).mono ?_; rintro e w' ⟨rfl, hw⟩; subst w') | (go_at_call 95; clear T2; refine (depth_any _ J _ (by omega) (by omega)).mono ?_; rintro e w' ⟨rfl, hw⟩; subst w') | (go_at_call 47; refine (up_any _ J _ _ (by omega) (by omega)).mono ?_; rintro e w' ⟨rfl, hw⟩; subst w'))
      go_ret2
      exact ⟨rfl, hA⟩
    · have B : M.cutB h I J = false := by rw [HC.out, decide_eq_false c1, decide_eq_false c2]; rfl
      have V : M.cutV h I J = 0 := by rw [HV.out, B]; rfl
      rw [B, V]
      have c3 : dj ≤ nx := by omega
      clear HC HV B V HU
      go_enter Tryz.func83, Tryz.ntmps83
      go_wp2_with (first | (go_at_call 94; refine (stepOf_any _ _ (by omega) (by omega)).mono ?_; rintro e w' ⟨rfl, hw⟩; subst w') | (go_at_call 95; clear T1; refine (depth_any _ I _ (by omega) (by omega)).mono ?_; rintro e w' ⟨rfl, hw⟩; subst w') | (go_at_call 95; clear T2; refine (depth_any _ J _ (by omega) (by omega)).mono ?_; rintro e w' ⟨rfl, hw⟩; subst w') | (go_at_call 47; refine (up_any _ J _ _ (by omega) (by omega)).mono ?_; rintro e w' ⟨rfl, hw⟩; subst w'))
      go_ret2
      exact ⟨rfl, hA⟩
theorem M.useV_no {h I J : Int} (hs : M.subB h I J = false) : M.useV h I J = false := by unfold M.useV; rw [hs]; rfl
set_option maxRecDepth 100000 in
set_option maxHeartbeats 400000 in
theorem useful_any (h I J : Int) (w : World) (h0 : 0 ≤ I) (h1 : I ≤ 18446744073709551615) (h2 : 0 ≤ J) (h3 : J ≤ 18446744073709551615) :
    Calls Tryz.prog 69 #[.int .i64 h, .agg #[.int .u64 I, .int .u64 J]] w fun e w' => e = .returned (.tuple #[.bool (M.useV h I J), .int .i64 (M.subE h I J)]) ∧ Below w.heap.size w w' := by
  have HA := hidq (fun o => (Below.refl _ w).alloc (Nat.le_refl w.heap.size) o)
  cases hs : M.subB h I J
  · have E := M.subE_no hs
    have V := M.useV_no hs
    rw [V, E]
    clear hs
    go_enter Tryz.func69, Tryz.ntmps69
    go_wp2_with (first | (go_at_call 53; refine (check8_any h I J _ (by omega) (by omega) (by omega) (by omega)).mono ?_; rintro e w1 ⟨rfl, hb1⟩; have X1 := (Bi.new w 46 I J).below hb1; obtain ⟨X1a, X1b⟩ := X1.facts; have hB1 := below_trans (HA.out _) hb1))
    go_ret2
    exact ⟨rfl, hB1⟩
  · have E := M.subE_yes hs
    by_cases hJ : J = 0
    · subst hJ
      obtain ⟨r, hr⟩ : ∃ r, decide (I = 1) = r := ⟨_, rfl⟩
      have V : M.useV h I 0 = r := by unfold M.useV M.useB; rw [hs, if_pos rfl, hr]; rfl
      have hr' : (I == 1) = r := hr
      rw [V, E]
      clear hs
      clear hr
      go_enter Tryz.func69, Tryz.ntmps69
      go_wp2_with (first | (go_at_call 53; refine (check8_any h I 0 _ (by omega) (by omega) (by omega) (by omega)).mono ?_; rintro e w1 ⟨rfl, hb1⟩; have X1 := (Bi.new w 46 I 0).below hb1; obtain ⟨X1a, X1b⟩ := X1.facts; have hB1 := below_trans (HA.out _) hb1))
      go_ret2
      exact ⟨rfl, hB1⟩
    · obtain ⟨r, hr⟩ : ∃ r, M.cutB h I J = r := ⟨_, rfl⟩
      have V : M.useV h I J = !r := by unfold M.useV M.useB; rw [hs, if_neg hJ, hr]; rfl
      rw [V, E]
      go_enter Tryz.func69, Tryz.ntmps69
      go_wp2_with (first | (go_at_call 53; refine (check8_any h I J _ (by omega) (by omega) (by omega) (by omega)).mono ?_; rintro e w1 ⟨rfl, hb1⟩; have X1 := (Bi.new w 46 I J).below hb1; obtain ⟨X1a, X1b⟩ := X1.facts; have hB1 := below_trans (HA.out _) hb1) | (go_at_call 83; refine (cutOf_any h I J _ hs hJ).mono ?_; rintro e w2 ⟨rfl, hb2⟩; have X2 := X1.below hb2; obtain ⟨X2a, X2b⟩ := X2.facts; have hB2 := below_trans hB1 hb2))
      go_ret2
      exact ⟨rfl, hB2⟩
theorem Ss.oneq (w : World) (t : TypeId) (x y : Int) (B : Nat) (hB : w.heap.size = B) (h : 0 ≤ x ∧ x ≤ 18446744073709551615 ∧ 0 ≤ y ∧ y ≤ 18446744073709551615) : Ss (w.alloc (.cells #[.int .u64 x, .int .u64 y] t)) (.slice (some ⟨B, 0, none⟩) 1 1) [(x, y)] := by subst hB; exact Ss.one w t x y h
theorem Ss.twoq (w : World) (t : TypeId) (x y z u : Int) (B : Nat) (hB : w.heap.size = B) (h : 0 ≤ x ∧ x ≤ 18446744073709551615 ∧ 0 ≤ y ∧ y ≤ 18446744073709551615) (k : 0 ≤ z ∧ z ≤ 18446744073709551615 ∧ 0 ≤ u ∧ u ≤ 18446744073709551615) : Ss (w.alloc (.cells #[.int .u64 x, .int .u64 y, .int .u64 z, .int .u64 u] t)) (.slice (some ⟨B, 0, none⟩) 2 2) [(x, y), (z, u)] := by subst hB; exact Ss.two w t x y z u h k
end Go.Proofs.YthmiekinjfaflaaGreat
