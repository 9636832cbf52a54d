/-
  Plain mathematics of package label's way down: a part that is there already is what one comes to; the parts of a subset's label and key. No condition.
-/
import Derived.Test.YthmiekinjfaflaaGreatZA3
import Derived.Test.YthmiekinjfaflaaGreatZNZ
import Derived.Test.YthmiekinjfaflaaGreatZSt8
import Derived.Test.YthmiekinjfaflaaGreatZU5
namespace Go.Proofs.YthmiekinjfaflaaGreat
namespace M
theorem part_found {A : List Tm} {i k : Nat} {s : Int} (ho : opn A (ofT i) = true) (h0 : 0 ≤ s) (h2 : s ≤ 2) (hk : k < A.length) (he : at_ A k = (2 + s, (i : Int), 0)) : partA A (ofT i) s = (ofT k, A, 0) ∧ opn A (ofT k) = true := by
  obtain ⟨hA, hm, hl⟩ := opn_iff.1 ho
  have hp : plc (2 + s, (i : Int), 0) A = some k := by rw [← he]; exact hA.place hk
  have hy : mayB (2 + s, (i : Int), 0) A.length = true := by
    have := (hA.2 k hk).1
    rw [he] at this
    exact may_mono this (by omega)
  have hf : findE A (2 + s, (i : Int), 0) = 0 := by
    unfold findE
    rw [if_pos ⟨hA, hy⟩, if_neg (by rw [hp]; simp)]
  have hmk : makeE A (2 + s, (i : Int), 0) = 0 := by
    unfold makeE
    rw [if_neg (by rw [hf]; decide), hf]
  refine ⟨?_, opn_iff.2 ⟨hA, mb_ofT hk, ?_⟩⟩
  · unfold partA
    rw [if_pos ⟨hm, hl, h0, h2⟩, if_pos (show (ofT (i : Int)).1 = true from rfl)]
    show mkT A (2 + s, (i : Int), 0) = _
    unfold mkT makeV makeL
    rw [if_pos hmk, if_pos hf, if_pos hf, plcI_some hp]
  · rw [sld_ofT, he]
    exact decide_eq_false (by show ¬ 2 + s = 5; omega)
theorem wkR_cons {A B : List Tm} {v y : Val} {s : Int} {S : List Int} (h : partA A v s = (y, B, 0)) : wkR (s :: S) A v = wkR S B y := by
  show (if (partA A v s).2.2 = 0 then _ else _) = _
  rw [h]
  exact if_pos rfl
theorem opn_place {A : List Tm} {v : Val} (ho : opn A v = true) (hs : v.1 = true) : ∃ i : Nat, v = ofT i ∧ i < A.length := by
  obtain ⟨hA, hm, hl⟩ := opn_iff.1 ho
  obtain ⟨h1, h2⟩ := mb_iff.1 hm
  obtain ⟨h3, h4⟩ := h2 hs
  refine ⟨v.2.2.2.2.toNat, ?_, by omega⟩
  rw [h1]
  unfold bare
  rw [if_pos hs]
  show ofT _ = ofT ((v.2.2.2.2.toNat : Nat) : Int)
  rw [Int.toNat_of_nonneg h3]
def labW (I J : Int) : List Int := pathL 1 I ++ 2 :: sidesL I J
def keyW (k I J : Int) : List Int := pathL 1 I ++ 2 :: sidesL I J ++ (if k = 1 then [] else [2])
theorem labW_zero {I : Int} : labW I 0 = pathL 1 I ++ [2] := by unfold labW sidesL; rw [if_pos rfl]
theorem labW_more {I J : Int} (h : J ≠ 0) : labW I J = (pathL 1 I ++ [2]) ++ pathL I J := by unfold labW sidesL; rw [if_neg h, List.append_assoc]; rfl
theorem keyW_one {I J : Int} : keyW 1 I J = labW I J := by unfold keyW labW; rw [if_pos rfl, List.append_nil]
theorem keyW_more {k I J : Int} (h : k ≠ 1) : keyW k I J = labW I J ++ [2] := by unfold keyW labW; rw [if_neg h]
theorem keyW_opn {k I J : Int} : Opn3 (keyW k I J) := opn3_key
theorem labW_opn {I J : Int} : Opn3 (labW I J) := opn3_lab
theorem path_few {h a n : Int} (hk : okB h n = true) : (pathL a n).length ≤ 32 := (sdB_iff.1 (path_sd (a := a) hk)).1
/-- what is told of a value that is open: one walk by parts; of any other, an error -/
def bypA (A : List Tm) (v : Val) (S : List Int) : Ans := if opn A v = true then wkR S A v else (zV, [], 1)
theorem byp_yes {A : List Tm} {v : Val} {S : List Int} (h : opn A v = true) : bypA A v S = wkR S A v := by unfold bypA; rw [if_pos h]
theorem byp_no {A : List Tm} {v : Val} {S : List Int} (h : ¬ opn A v = true) : bypA A v S = (zV, [], 1) := by unfold bypA; rw [if_neg h]
theorem walk_byp {A : List Tm} {v : Val} {S : List Int} (hs : sdB S = true) : walkA A v S = bypA A v S := by
  by_cases h : opn A v = true
  · rw [walk_yes h hs, byp_yes h]
  · rw [walk_no (fun hh => h hh.1), byp_no h]
theorem node_byp {A : List Tm} {h : Int} {m : Val} {n : Int} (hk : okB h n = true) : nodeA A h m n = walkA A m (pathL 1 n) := by
  rw [walk_byp (path_sd hk)]
  unfold nodeA bypA
  rw [hk, Bool.true_and]
theorem node_bad {A : List Tm} {h : Int} {m : Val} {n : Int} (hk : okB h n = false) : nodeA A h m n = (zV, [], 1) := by
  unfold nodeA
  rw [hk]
  rfl
theorem lab_byp {A : List Tm} {h : Int} {m : Val} {I J : Int} (hs : subB h I J = true) : labA A h m I J = bypA A m (labW I J) := by
  unfold labW
  by_cases ho : opn A m = true
  · rw [lab_walk hs ho, byp_yes ho]
  · rw [lab_no (fun hh => ho hh.2), byp_no ho]
theorem key_byp {A : List Tm} {h k : Int} {m : Val} {I J : Int} (hy : myV h k I J = true) : keyA A h k m I J = bypA A m (keyW k I J) := by
  unfold keyW
  obtain ⟨h1, h2, -⟩ := my_parts hy
  by_cases ho : opn A m = true
  · rw [key_walk h1 h2 hy ho, byp_yes ho]
  · rw [key_no (fun hh => ho hh.2), byp_no ho]
theorem opn3_drop {S : List Int} (h : Opn3 S) (j : Nat) : Opn3 (S.drop j) := fun s hs => h s (List.mem_of_mem_drop hs)
theorem opn3_side {S : List Int} (h : sdB S = true) : Opn3 S := fun s hs => by have := (sdB_iff.1 h).2 s hs; omega
end M
open Go.RowKit
theorem is_tail {W : World} {b off n cap m : Nat} {x : Int} {L : List Int} (h : Is W (.slice (some ⟨b, off, none⟩) n cap) (x :: L)) (hm : m = L.length) :
    Is W (.slice (if cap = 1 then some ⟨b, off, none⟩ else some ⟨b, off + 1, none⟩) m (cap - 1)) L := by
  subst hm
  obtain ⟨ao, c, e, h2, h3, h4, h5⟩ := h
  cases e
  rw [List.length_cons] at h2 h5
  by_cases hc : cap = 1
  · have hL : L = [] := List.eq_nil_of_length_eq_zero (by omega)
    subst hL
    rw [if_pos hc]
    subst hc
    exact ⟨_, 0, rfl, by simp, by simp, by simp, fun h => by omega⟩
  · rw [if_neg hc]
    obtain ⟨b', off', e2, h7, h8⟩ := h5 (by omega)
    cases e2
    refine ⟨_, cap - 1, rfl, by omega, by omega, fun y hy => h4 y (List.mem_cons_of_mem _ hy), fun h0 => ⟨b, off + 1, rfl, h7, fun j hj => ?_⟩⟩
    have e1 : elInt.size = 1 := rfl
    rw [e1] at hj h8
    have := h8 (j + 1) (by omega)
    rw [show off + 1 + j = off + (j + 1) by omega, this]
    show (elInt.enc x ++ elInt.cells L)[j + 1]? = _
    rfl
end Go.Proofs.YthmiekinjfaflaaGreat
namespace Go.Proofs.YthmiekinjfaflaaGreat
open Go.RowKit
theorem any_take_nextl {p : Int → Bool} {L : List Int} {k : Nat} {x : Int} (h : L[k]? = some x) (h0 : (L.take k).any p = false) (hx : p x = false) : (L.take (k + 1)).any p = false := by
  obtain ⟨hk, e⟩ := List.getElem?_eq_some_iff.1 h
  rw [List.take_succ_eq_append_getElem hk, List.any_append, h0, e]
  simp [hx]
abbrev noSide (s : Int) : Bool := decide (¬ (s = 0 ∨ s = 1))
theorem sides_any {S : List Int} (hl : S.length ≤ 32) : S.any noSide = !M.sdB S := by
  cases hs : M.sdB S with
  | true =>
    have := (M.sdB_iff.1 hs).2
    rw [Bool.not_true, List.any_eq_false]
    intro s hm hn
    exact (of_decide_eq_true hn) (this s hm)
  | false =>
    rw [Bool.not_false, List.any_eq_true]
    by_cases h : ∀ s ∈ S, s = 0 ∨ s = 1
    · have := M.sdB_iff.2 ⟨hl, h⟩
      rw [hs] at this; cases this
    · obtain ⟨s, h1, h2⟩ : ∃ s, s ∈ S ∧ ¬ (s = 0 ∨ s = 1) := by
        refine Classical.byContradiction fun hn => h fun s hs => Classical.byContradiction fun h2 => hn ⟨s, hs, h2⟩
      exact ⟨s, h1, decide_eq_true h2⟩
end Go.Proofs.YthmiekinjfaflaaGreat
namespace Go.Proofs.YthmiekinjfaflaaGreat
open Go.RowKit
set_option maxRecDepth 100000 in
set_option maxHeartbeats 4000000 in
theorem lsealed_eq {A : List M.Tm} {v : M.Val} {r : Bool} (h : M.sld A v = r) (hv : v.1 = true → 0 ≤ v.2.2.2.2 ∧ v.2.2.2.2 < (A.length : Int)) {vl : Value} (w : World) (u : Ts w vl A) :
    Calls Tryz.prog 73 #[vl, (.agg #[.bool v.1, .bool v.2.1, .int .u64 (M.nu v.2.2.1.1), .int .u64 (M.nu v.2.2.1.2), .int .u64 (M.nu v.2.2.2.1.1.1), .int .u64 (M.nu v.2.2.2.1.1.2), .int .u64 (M.nu v.2.2.2.1.2.1), .int .u64 (M.nu v.2.2.2.1.2.2), .int .i64 v.2.2.2.2])] w fun e w' => e = .returned (.bool r) ∧ Below w.heap.size w w' := by
  unfold M.sld at h
  cases h2 : v.2.1 with
  | true =>
    obtain rfl : true = r := by simpa [h2] using h
    clear h u hv
    go_enter Tryz.func73, Tryz.ntmps73
    go_wp2
    go_ret
    exact ⟨rfl, below_one (Below.refl _ _)⟩
  | false =>
    cases h1 : v.1 with
    | false =>
      obtain rfl : false = r := by simpa [h2, h1] using h
      clear h u hv
      go_enter Tryz.func73, Tryz.ntmps73
      go_wp2
      go_ret
      exact ⟨rfl, below_one (Below.refl _ _)⟩
    | true =>
      obtain ⟨t0, t1⟩ := hv h1
      obtain ⟨k, hk⟩ : ∃ k : Nat, v.2.2.2.2 = k := ⟨v.2.2.2.2.toNat, by omega⟩
      rw [hk] at h t1
      rw [hk]
      obtain ⟨a0, cap, rfl, q1, q2, q3⟩ := u.form
      obtain ⟨b, off, rfl⟩ := q3 (by omega)
      have hkl : k < A.length := by omega
      obtain ⟨x1, x2, x3⟩ := Ts.cell (u.alloc (.cells #[.bool true, .bool false, .int .u64 (M.nu v.2.2.1.1), .int .u64 (M.nu v.2.2.1.2), .int .u64 (M.nu v.2.2.2.1.1.1), .int .u64 (M.nu v.2.2.2.1.1.2), .int .u64 (M.nu v.2.2.2.1.2.1), .int .u64 (M.nu v.2.2.2.1.2.2), .int .i64 (k : Int)] 29)) hkl
      have h' : decide ((M.at_ A k).1 = 5) = r := by simpa [h2, h1] using h
      rw [← h']
      clear h u hv q3 h' hk x2 x3
      generalize M.at_ A k = t at *
      generalize A.length = n at *
      go_enter Tryz.func73, Tryz.ntmps73
      go_wp2
      go_ret
      exact ⟨rfl, below_one (Below.refl _ _)⟩
set_option maxRecDepth 100000 in
set_option maxHeartbeats 4000000 in
theorem ldown_eq {A : List M.Tm} {i0 : Nat} {S : List Int} (ho : M.opn A (M.ofT i0) = true) (hS : M.Opn3 S) {vl vs : Value} (w0 w : World) (h0 : Below w0.heap.size w0 w) (u : Ts w0 vl A) (us : Is w0 vs S) :
    Calls Tryz.prog 74 #[vl, .int .i64 (i0 : Int), vs] w fun e w' => ∃ (i : Nat) (T : List Int) (vt : Value), e = .returned (.tuple #[.int .i64 (i : Int), vt]) ∧ Is w0 vt T ∧ M.opn A (M.ofT i) = true ∧ M.Opn3 T ∧ T.length ≤ S.length ∧ M.wkR S A (M.ofT i0) = M.wkR T A (M.ofT i) ∧ i < A.length ∧ Below w.heap.size w w' := by
  obtain ⟨al, cl, rfl, q1, q2, q3⟩ := u.form
  have hA := (M.opn_iff.1 ho).1
  have hl := hA.1
  have hi0 : i0 < A.length := by
    obtain ⟨y, hy, hl⟩ := M.opn_place ho rfl
    have e : ((i0 : Nat) : Int) = (y : Nat) := congrArg (fun v : M.Val => v.2.2.2.2) hy
    omega
  obtain ⟨bl, ol, rfl⟩ := q3 (by omega)
  have U := hidq (u.below h0)
  have H0 := hidq h0
  have HA := hidq hA
  clear u q3 hA h0
  generalize hn : A.length = n at *
  have HN := hidq hn
  have w1 : IntKind.i64.wrap ((i0 : Int) + 1) = (i0 : Int) + 1 := wrap64 (by omega) (by omega)
  clear hn
  go_enter Tryz.func74, Tryz.ntmps74
  go_wp2
  go_loopw [8, 1, 2] (fun kk ii pp wr => ∃ (k i : Nat) (T : List Int), kk = .int .i64 k ∧ ii = .int .i64 i ∧ i < k ∧ k ≤ n ∧ Is w0 pp T ∧ M.opn A (M.ofT i) = true ∧ M.Opn3 T ∧ T.length ≤ S.length ∧ M.wkR S A (M.ofT i0) = M.wkR T A (M.ofT i) ∧ Below w.heap.size w wr) (fun kk _ _ _ => n - (intOf kk).toNat)
  case atStart => exact ⟨i0 + 1, i0, S, by simp, rfl, by omega, by omega, us, ho, hS, Nat.le_refl _, rfl, Below.refl _ _⟩
  case round =>
    obtain ⟨k, i, T, rfl, rfl, hik, hk, ht, hoi, h3, hlt, he, hb⟩ := hrel
    clear w1 us ho hS
    have HB := hidq hb
    have HT := hidq ht
    have HO := hidq hoi
    have H3 := hidq h3
    have HE := hidq he
    have HL := hidq hlt
    obtain ⟨at_, ct, rfl, p1, p2, p3⟩ := ht.form
    clear he hoi h3 hlt
    by_cases hkn : k < n
    · cases T with
      | nil =>
        clear hb ht p3
        go_wp2
        go_ret2
        exact ⟨i, [], _, rfl, HT.out, HO.out, H3.out, HL.out, HE.out, by omega, HB.out⟩
      | cons s T' =>
        obtain ⟨bt, ot, rfl⟩ := p3 (by simp only [List.length_cons] at p1; omega)
        have s0 := (H3.out s (by simp)).1
        have s2 := (H3.out s (by simp)).2
        have c0 := Is.cellq (ht.below (below_trans H0.out hb)) (k := 0) (x := s) rfl
        rw [Nat.add_zero] at c0
        obtain ⟨x1, x2, x3⟩ := Ts.cell (U.out.below hb) (by rw [HN.out]; exact hkn)
        generalize hτ : M.at_ A k = τ at *
        obtain ⟨a, b, c⟩ := τ
        have Hτ := hidq hτ
        have hw : IntKind.i64.wrap (2 + s) = 2 + s := wrap64 (by omega) (by omega)
        have hm : (T'.length : Int) + 1 > 0 := by omega
        have hk1 : IntKind.i64.wrap ((k : Int) + 1) = (k : Int) + 1 := wrap64 (by omega) (by omega)
        clear hτ hb ht p3
        have HTs := hidq (show Is w0 (.slice (some ⟨bt, ot, none⟩) (T'.length + 1) ct) (s :: T') from HT.out)
        rw [List.length_cons] at *
        generalize hmm : T'.length = m at *
        have HM := hidq hmm
        clear hmm
        have hq := eqT a b c (2 + s) i 0
        cases hd : decide (((a, b, c) : M.Tm) = (2 + s, (i : Int), 0)) with
        | true =>
          rw [hd] at hq
          have HF := hidq (M.part_found HO.out s0 s2 (by rw [HN.out]; exact hkn) (Hτ.out.trans (of_decide_eq_true hd)))
          clear hd
          go_wp2
          go_quiet (fail)
          go_wp2
          go_quiet (fail)
          go_wp2
          go_roundw
          case rel => exact ⟨k + 1, k, T', by go_num, rfl, by omega, by omega, is_tail HTs.out HM.out.symm, HF.out.2, fun y hy => H3.out y (List.mem_cons_of_mem _ hy), by have h1 := HL.out; have h2 := HM.out; (try rw [List.length_cons] at h1); omega, HE.out.trans (M.wkR_cons HF.out.1), below_dq HB.out _⟩
          case measure => simp [intOf]; omega
        | false =>
          rw [hd] at hq
          clear hd
          go_wp2
          go_quiet (fail)
          go_wp2
          go_roundw
          case rel => exact ⟨k + 1, i, s :: T', by go_num, rfl, by omega, by omega, HTs.out, HO.out, H3.out, by rw [List.length_cons, HM.out]; exact HL.out, HE.out, below_dq HB.out _⟩
          case measure => simp [intOf]; omega
    · obtain rfl : k = n := by omega
      clear hb ht p3
      go_wp2
      go_ret2
      exact ⟨i, T, _, rfl, HT.out, HO.out, H3.out, HL.out, HE.out, by omega, HB.out⟩
end Go.Proofs.YthmiekinjfaflaaGreat
