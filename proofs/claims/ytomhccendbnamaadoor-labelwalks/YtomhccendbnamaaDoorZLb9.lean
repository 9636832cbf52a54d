/-
  What the contracts of layer 13 stand on: open values, boxes that are stored to, paths as lists of numbers. Conditions: each theorem's own premises.
-/
import Derived.Test.YtomhccendbnamaaDoorZM3
import Derived.Test.YtomhccendbnamaaDoorZNX
import Derived.Test.YtomhccendbnamaaDoorZNZ
namespace Go.Proofs.YtomhccendbnamaaDoor
open Go.RowKit
theorem M.chk0 {A : List M.Tm} {v : M.Val} : M.chkV A v = 0 ↔ M.Ok A ∧ M.mb A v = true := by
  unfold M.chkV
  by_cases hp : M.Ok A ∧ M.mb A v = true
  · rw [if_pos hp]; exact ⟨fun _ => hp, fun _ => rfl⟩
  · rw [if_neg hp]; exact ⟨fun h => (by cases h), fun h => absurd h hp⟩
theorem opn_chk {A : List M.Tm} {v : M.Val} (h : M.chkV A v = 0) : M.opn A v = !M.sld A v := by
  obtain ⟨h1, h2⟩ := M.chk0.1 h
  unfold M.opn
  rw [decide_eq_true h1, h2]; rfl
theorem opn_no {A : List M.Tm} {v : M.Val} (h : ¬ M.chkV A v = 0) : M.opn A v = false := by
  rw [Bool.eq_false_iff, Ne, M.opn_iff]
  exact fun hh => h (M.chk0.2 ⟨hh.1, hh.2.1⟩)
theorem chk_one {A : List M.Tm} {v : M.Val} (h : ¬ M.chkV A v = 0) : M.chkV A v = 1 := by
  unfold M.chkV at h ⊢
  by_cases hp : M.Ok A ∧ M.mb A v = true
  · rw [if_pos hp] at h; exact absurd rfl h
  · rw [if_neg hp]
theorem Bx9.set {W : World} {B : Nat} {v : M.Val} (h : Bx9 W B v) (x : M.Val) : Bx9 (((((((((W.setCell ⟨B, 0, none⟩ (.bool x.1)).setCell ⟨B, 1, none⟩ (.bool x.2.1)).setCell ⟨B, 2, none⟩ (.int .u64 (M.nu x.2.2.1.1))).setCell ⟨B, 3, none⟩ (.int .u64 (M.nu x.2.2.1.2))).setCell ⟨B, 4, none⟩ (.int .u64 (M.nu x.2.2.2.1.1.1))).setCell ⟨B, 5, none⟩ (.int .u64 (M.nu x.2.2.2.1.1.2))).setCell ⟨B, 6, none⟩ (.int .u64 (M.nu x.2.2.2.1.2.1))).setCell ⟨B, 7, none⟩ (.int .u64 (M.nu x.2.2.2.1.2.2))).setCell ⟨B, 8, none⟩ (.int .i64 x.2.2.2.2)) B x := by
  have h0 := Go.heap_setCell_same W B 0 _ _ (.bool x.1) h
  have h1 := Go.heap_setCell_same _ B 1 _ _ (.bool x.2.1) h0
  have h2 := Go.heap_setCell_same _ B 2 _ _ (.int .u64 (M.nu x.2.2.1.1)) h1
  have h3 := Go.heap_setCell_same _ B 3 _ _ (.int .u64 (M.nu x.2.2.1.2)) h2
  have h4 := Go.heap_setCell_same _ B 4 _ _ (.int .u64 (M.nu x.2.2.2.1.1.1)) h3
  have h5 := Go.heap_setCell_same _ B 5 _ _ (.int .u64 (M.nu x.2.2.2.1.1.2)) h4
  have h6 := Go.heap_setCell_same _ B 6 _ _ (.int .u64 (M.nu x.2.2.2.1.2.1)) h5
  have h7 := Go.heap_setCell_same _ B 7 _ _ (.int .u64 (M.nu x.2.2.2.1.2.2)) h6
  have h8 := Go.heap_setCell_same _ B 8 _ _ (.int .i64 x.2.2.2.2) h7
  clear h0 h1 h2 h3 h4 h5 h6 h7
  unfold Bx9
  rw [h8]
  simp
theorem Is.cellq {W : World} {b off n cap : Nat} {L : List Int} (h : Is W (.slice (some ⟨b, off, none⟩) n cap) L) {k : Nat} {x : Int} (hk : L[k]? = some x) : W.cell? ⟨b, off + k, none⟩ = some (.int .i64 x) := by
  have := Sl.at h hk (i := 0) (by decide)
  simpa [elInt] using this
theorem Bx9.other9 {W : World} {B g : Nat} {v : M.Val} (h : Bx9 W B v) (hg : B ≠ g) (a b c d e f i j k : Value) : Bx9 (((((((((W.setCell ⟨g, 0, none⟩ a).setCell ⟨g, 1, none⟩ b).setCell ⟨g, 2, none⟩ c).setCell ⟨g, 3, none⟩ d).setCell ⟨g, 4, none⟩ e).setCell ⟨g, 5, none⟩ f).setCell ⟨g, 6, none⟩ i).setCell ⟨g, 7, none⟩ j).setCell ⟨g, 8, none⟩ k) B v :=
  ((((((((h.other hg _).other hg _).other hg _).other hg _).other hg _).other hg _).other hg _).other hg _).other hg _
set_option maxRecDepth 100000 in
theorem Is.oneg (W : World) (x : Int) (g : Nat) (hg : W.heap.size = g) (h : M.fitI x) : Is (W.alloc (.cells #[.int .i64 x] 3)) (.slice (some ⟨g, 0, none⟩) 1 1) [x] := by
  subst hg
  exact Sl.of_own (E := elInt) (base := 0) (e := 3) (n := 1) ⟨rfl, .inr ⟨W.heap.size, 1, _, rfl, Nat.zero_le _, heap_alloc_new W _, Nat.le_refl _, by unfold maxLen; omega, rfl, rfl⟩⟩ (by intro y hy; simp at hy; subst hy; exact h)
theorem opn_fit {A : List M.Tm} {v : M.Val} (h : M.opn A v = true) : M.fitI v.2.2.2.2 := by
  obtain ⟨hA, hm, _⟩ := M.opn_iff.1 h
  obtain ⟨h1, h2⟩ := M.mb_iff.1 hm
  have := hA.1
  cases hs : v.1 with
  | true =>
    have := h2 hs
    exact ⟨by omega, by omega⟩
  | false =>
    have : v.2.2.2.2 = 0 := by
      rw [h1]
      unfold M.bare
      rw [if_neg (by rw [hs]; decide)]
      split <;> rfl
    rw [this]
    exact ⟨by decide, by decide⟩
theorem M.ok_fits {A : List M.Tm} (hA : M.Ok A) : ∀ x ∈ A, M.fitT x := by
  intro x hx
  obtain ⟨i, hi, rfl⟩ := List.mem_iff_getElem.1 hx
  have hm := (hA.2 i hi).1
  have hl := hA.1
  rw [show M.at_ A i = A[i] by unfold M.at_; rw [List.getElem?_eq_getElem hi]; rfl] at hm
  generalize A[i] = t at *
  obtain ⟨a, b, c⟩ := t
  have := M.may_kind hm
  dsimp only at this
  have f1 : M.fitI a := ⟨by omega, by omega⟩
  have f2 : M.fitI b := ⟨by omega, by omega⟩
  have f3 : M.fitI c := ⟨by omega, by omega⟩
  exact ⟨f1, f2, f3⟩
theorem ts_ofown {W : World} {base : Nat} {e : TypeId} {v : Value} {L : List M.Tm} (h : W.ownsRow base e 3 v L.length (elTm.cells L)) (hA : M.Ok L) : Ts W v L := Sl.of_own (E := elTm) h (M.ok_fits hA)
theorem walk_no {A : List M.Tm} {v : M.Val} {S : List Int} (h : ¬ (M.opn A v = true ∧ M.sdB S = true)) : M.walkA A v S = (M.zV, [], 1) := by
  unfold M.walkA
  rw [if_neg (by rw [Bool.and_eq_true]; exact h)]
theorem walk_yes {A : List M.Tm} {v : M.Val} {S : List Int} (h : M.opn A v = true) (hs : M.sdB S = true) : M.walkA A v S = M.wkR S A v := by
  unfold M.walkA
  rw [if_pos (by rw [h, hs]; rfl)]
theorem M.wkR_next {A B : List M.Tm} {v y : M.Val} {S : List Int} {k : Nat} {s : Int} (hw : M.wkR (S.take k) A v = (y, B, 0)) (hs : S[k]? = some s) : M.wkR (S.take (k + 1)) A v = M.partA B y s := by
  rw [List.take_add_one, hs, Option.toList_some, M.wkR_append, hw]
  unfold M.andW
  rw [if_pos rfl, M.wkR_one]
theorem M.wkR_stop {A B : List M.Tm} {v y : M.Val} {S : List Int} {k : Nat} {s : Int} (hw : M.wkR (S.take k) A v = (y, B, 0)) (hs : S[k]? = some s) (hp : ¬ (M.partA B y s).2.2 = 0) : M.wkR S A v = (M.zV, [], (M.partA B y s).2.2) := by
  obtain ⟨hk, hx⟩ := List.getElem?_eq_some_iff.1 hs
  have e : S.take k ++ (s :: S.drop (k + 1)) = S := by rw [← hx, List.getElem_cons_drop, List.take_append_drop]
  rw [← e, M.wkR_append, hw]
  unfold M.andW
  rw [if_pos rfl]
  show M.wkR (s :: _) B y = _
  unfold M.wkR
  rw [if_neg hp]
theorem ints_cells : ∀ L : List Int, ints L = elInt.cells L
  | [] => rfl
  | x :: L => by
    have := ints_cells L
    unfold ints at this ⊢
    unfold Elt.cells at this ⊢
    rw [List.map_cons, List.flatMap_cons, this]; rfl
theorem path_fit {a b : Int} : ∀ x ∈ M.pathL a b, M.fitI x := fun x hx => by
  rcases M.pathL_bit x hx with rfl | rfl
  · exact ⟨by decide, by decide⟩
  · exact ⟨by decide, by decide⟩
set_option maxRecDepth 100000 in
theorem is_path {W : World} {base : Nat} {v : Value} {a b : Int} (h : W.ownsRow base 3 1 v (M.pathL a b).length (ints (M.pathL a b))) : Is W v (M.pathL a b) := by
  rw [ints_cells] at h
  exact Sl.of_own (E := elInt) h path_fit
theorem M.pathE_1 {h n : Int} (hk : M.okB h n = false) : M.pathE h 1 n = 1 := by
  unfold M.pathE
  rw [hk, Bool.and_false]; rfl
set_option maxRecDepth 100000 in
theorem npath_is (h a b : Int) (w : World) (hka : M.okB h a = true) (hkb : M.okB h b = true) (hab : M.abv a b = true) :
    Calls Tryd.prog 20 #[.int .i64 h, .int .u64 a, .int .u64 b] w fun e w' => ∃ v, e = .returned (.tuple #[v, .int .i64 0]) ∧ Is w' v (M.pathL a b) ∧ Below w.heap.size w w' :=
  (path_yes h a b w hka hkb hab).mono fun _ _ ⟨h1, h2, h3⟩ => ⟨_, h1, is_path h2, h3⟩
theorem M.sub_no {h I J : Int} (hs : M.subB h I J = false) : M.subE h I J = 1 := by unfold M.subE; rw [hs]; rfl
theorem M.sub_yes {h I J : Int} (hs : M.subB h I J = true) : M.subE h I J = 0 := by unfold M.subE; rw [hs]; rfl
theorem M.lab_no {A : List M.Tm} {h : Int} {m : M.Val} {I J : Int} (hh : ¬ (M.subB h I J = true ∧ M.opn A m = true)) : M.labA A h m I J = (M.zV, [], 1) := by
  unfold M.labA
  rw [if_neg (by rw [Bool.and_eq_true]; exact hh)]
abbrev pathsIJ (I J : Int) : List Int := M.pathL 1 I ++ 2 :: M.sidesL I J
theorem M.key_no {A : List M.Tm} {h k : Int} {m : M.Val} {I J : Int} (hh : ¬ (M.myV h k I J = true ∧ M.opn A m = true)) : M.keyA A h k m I J = (M.zV, [], 1) := by
  unfold M.keyA
  rw [if_neg (by
    intro hc
    rw [Bool.and_eq_true, Bool.and_eq_true] at hc
    exact hh ⟨hc.1.2, hc.2⟩)]
theorem M.my_parts {h k I J : Int} (hy : M.myV h k I J = true) : M.kB k = true ∧ M.subB h I J = true ∧ M.myE h k I J = 0 := by
  unfold M.myV at hy
  rw [Bool.and_eq_true, Bool.and_eq_true] at hy
  refine ⟨hy.1.1, hy.1.2, ?_⟩
  unfold M.myE
  rw [hy.1.1, hy.1.2]; rfl
theorem M.key_yes {A : List M.Tm} {h k : Int} {m : M.Val} {I J : Int} (hy : M.myV h k I J = true) (ho : M.opn A m = true) : M.keyA A h k m I J = if k = 1 then M.labA A h m I J else M.andP (M.labA A h m I J) 2 := by
  obtain ⟨h1, h2, -⟩ := M.my_parts hy
  unfold M.keyA
  rw [if_pos (by rw [h1, h2, hy, ho]; rfl)]
end Go.Proofs.YtomhccendbnamaaDoor
