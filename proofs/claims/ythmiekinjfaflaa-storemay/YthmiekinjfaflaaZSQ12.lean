/-
  What the document's term.Same answers of a list held against itself; the contracts of the program's store that speak of values stand behind this text. Conditions: the slices hold terms.
-/
import Derived.Test.YthmiekinjfaflaaZSQ10
import Derived.Test.YthmiekinjfaflaaZSQ9
import Derived.Test.YthmiekinjfaflaaZSt13
namespace Go.Proofs.Ythmiekinjfaflaa
open Go.RowKit
end Go.Proofs.Ythmiekinjfaflaa
namespace Go.Proofs.Ythmiekinjfaflaa
namespace M
/-- the sides by which one comes from the master value to a pair's value -/
def wrd (k : Int) (s : Int × Int) : List Int := if s.2 = 0 then pathL 1 s.1 ++ 2 :: sidesL s.1 s.2 ++ (if k = 1 then [] else [2]) else pathL 1 s.1 ++ 2 :: sidesL s.1 s.2
theorem wrd_opn3 {k : Int} {s : Int × Int} : Opn3 (wrd k s) := by
  unfold wrd
  by_cases h : s.2 = 0
  · rw [if_pos h]; exact opn3_key
  · rw [if_neg h]; exact opn3_lab
theorem wrd_len {h k : Int} {s : Int × Int} (hs : subB h s.1 s.2 = true) : (wrd k s).length ≤ 66 := by
  have := lab_len hs
  unfold wrd
  by_cases h : s.2 = 0
  · rw [if_pos h, List.length_append]
    by_cases h1 : k = 1
    · rw [if_pos h1]; simp only [List.length_nil]; omega
    · rw [if_neg h1]; simp only [List.length_cons, List.length_nil]; omega
  · rw [if_neg h]; omega
theorem stp_walk {A : List Tm} {h k : Int} {m : Val} {s : Int × Int} (hk : kB k = true) (hs : subB h s.1 s.2 = true) (hy : myV h k s.1 s.2 = true) (hm : opn A m = true) : stpA A h k m s = wkR (wrd k s) A m := by
  unfold stpA wrd
  by_cases h0 : s.2 = 0
  · rw [if_pos h0, if_pos h0]; exact key_walk hk hs hy hm
  · rw [if_neg h0, if_neg h0]; exact lab_walk hs hm
theorem sides_last {h I J : Int} (hs : subB h I J = true) (hJ : J ≠ 0) : ∃ T t, sidesL I J = T ++ [t] ∧ (t = 0 ∨ t = 1) := by
  obtain ⟨-, e⟩ := sides_up hs hJ
  exact ⟨_, _, e, by omega⟩
theorem wrd_inj {h k : Int} {s t : Int × Int} (hs : subB h s.1 s.2 = true) (ht : subB h t.1 t.2 = true) (h1 : k = 1 → s.2 = 0 ∧ t.2 = 0) (he : wrd k s = wrd k t) : s = t := by
  have fin : pathL 1 s.1 ++ 2 :: sidesL s.1 s.2 = pathL 1 t.1 ++ 2 :: sidesL t.1 t.2 → s = t := fun e => by
    obtain ⟨a, b⟩ := (lab_inj hs ht).1 e
    exact Prod.ext a b
  have mix : ∀ {s t : Int × Int}, subB h t.1 t.2 = true → s.2 = 0 → t.2 ≠ 0 → k ≠ 1 → pathL 1 s.1 ++ 2 :: sidesL s.1 s.2 ++ [2] = pathL 1 t.1 ++ 2 :: sidesL t.1 t.2 → False := fun {s t} ht hs0 ht0 hk e => by
    obtain ⟨T, b, e2, hb⟩ := sides_last ht ht0
    rw [e2] at e
    have e3 := congrArg (fun l => l.getLast?) e
    simp only [List.getLast?_append, List.getLast?_cons] at e3
    simp at e3
    omega
  unfold wrd at he
  by_cases hs0 : s.2 = 0
  · by_cases ht0 : t.2 = 0
    · rw [if_pos hs0, if_pos ht0, List.append_left_inj] at he
      exact fin he
    · by_cases hk : k = 1
      · exact absurd (h1 hk).2 ht0
      · rw [if_pos hs0, if_neg ht0, if_neg hk] at he
        exact (mix ht hs0 ht0 hk he).elim
  · by_cases ht0 : t.2 = 0
    · by_cases hk : k = 1
      · exact absurd (h1 hk).1 hs0
      · rw [if_neg hs0, if_pos ht0, if_neg hk] at he
        exact (mix hs ht0 hs0 hk he.symm).elim
    · rw [if_neg hs0, if_neg ht0] at he
      exact fin he
theorem mkR_made {h k : Int} {m : Val} (hk : kB k = true) : ∀ (S : List (Int × Int)) {A : List Tm}, opn A m = true → (∀ s ∈ S, subB h s.1 s.2 = true ∧ myV h k s.1 s.2 = true) → A.length + 66 * S.length ≤ 60000 →
    ∃ E L, mkR h k m S A = (E, L, 0) ∧ E.map (fun x => x.1) = S ∧ Ext A L ∧ opn L m = true ∧ (m.1 = false → L = A) ∧ (∀ x ∈ E, opn L x.2 = true ∧ x.2.1 = m.1 ∧ (m.1 = true → Wk L (wrd k x.1) m.2.2.2.2 x.2.2.2.2.2) ∧ (m.1 = false → wkR (wrd k x.1) A m = (x.2, A, 0))) ∧ L.length ≤ A.length + 66 * S.length
  | [], A, ho, _, _ => ⟨[], A, rfl, rfl, Ext.self _, ho, fun _ => rfl, by simp, by simp⟩
  | s :: S, A, ho, hS, hl => by
    obtain ⟨s1, s2⟩ := hS s (by simp)
    rw [List.length_cons] at hl
    have hw := wrd_len (k := k) s1
    have he := wkR_small (wrd k s) ho wrd_opn3 (by omega)
    obtain ⟨⟨z, B, n⟩, hq⟩ : ∃ q, wkR (wrd k s) A m = q := ⟨_, rfl⟩
    rw [hq] at he
    have he : n = 0 := he
    subst he
    obtain ⟨p1, p2, p3, p4, p5, p6⟩ := wkR_facts (wrd k s) ho wrd_opn3 hq
    have hB := (opn_iff.1 p1).1
    have hst : stpA A h k m s = (z, B, 0) := (stp_walk hk s1 s2 ho).trans hq
    obtain ⟨E, L, e1, e2, e3, e4, e5, e6, e7⟩ := mkR_made hk S (A := B) (opn_ext p2 hB ho) (fun t ht => hS t (List.mem_cons_of_mem _ ht)) (by omega)
    have hL := (opn_iff.1 e4).1
    refine ⟨(s, z) :: E, L, ?_, by rw [List.map_cons, e2], p2.trans e3, e4, fun hf => by rw [e5 hf, p6 hf], fun x hx => ?_, by rw [List.length_cons]; omega⟩
    · rw [mkR_step hst, e1]; rfl
    · rcases List.mem_cons.1 hx with rfl | hx
      · exact ⟨opn_ext e3 hL p1, p4, fun hm => Wk.ext e3 (p5 hm), fun hf => by rw [hq, p6 hf]⟩
      · obtain ⟨f1, f2, f3, f4⟩ := e6 x hx
        exact ⟨f1, f2, f3, fun hf => by have := f4 hf; rwa [p6 hf] at this⟩
theorem okL_made {L : List Tm} {b : Bool} : ∀ (E : List En), (∀ x ∈ E, opn L x.2 = true ∧ x.2.1 = b) → okL L b E (E.map (fun x => x.1)) = true
  | [], _ => rfl
  | x :: E, hE => by
    obtain ⟨h1, h2⟩ := hE x (by simp)
    rw [List.map_cons, okL, h1, h2, okL_made E (fun y hy => hE y (List.mem_cons_of_mem _ hy))]
    simp
theorem pm_eight {h k i : Int} (h0 : 0 ≤ i) (hE : prsE h k i = 0) (h8 : h ≤ 8) : (prsL h k i).length ≤ 100 := by
  obtain ⟨q1, -, q3, q4⟩ := prs_length h0 hE
  have hb := pr_facts q3 q4
  have hm : h * (h + 1) ≤ 8 * 9 := Int.mul_le_mul h8 (by omega) (by omega) (by omega)
  have : pmV h k ≤ 100 := by
    unfold pmV
    split
    · split
      · omega
      · split <;> omega
    · omega
  omega
theorem may_made {A : List Tm} {h k i : Int} {m : Val} (h0 : 0 ≤ i) (hE : prsE h k i = 0) (h8 : h ≤ 8) (ho : opn A m = true) (hA : A.length ≤ 1) :
    ∃ E L, makA A h k m i = (E, L, 0) ∧ E.map (fun x => x.1) = prsL h k i ∧ Ext A L ∧ (m.1 = false → L = A) ∧ chk14 L h k i E = 0 ∧ opn L m = true ∧ L.length ≤ 6700 ∧
      (∀ x ∈ E, opn L x.2 = true ∧ x.2.1 = m.1 ∧ (m.1 = true → Wk L (wrd k x.1) m.2.2.2.2 x.2.2.2.2.2) ∧ (m.1 = false → wkR (wrd k x.1) A m = (x.2, A, 0))) ∧
      (m.1 = true → m.2.2.2.2 = 0 → (at_ L 0).1 = 1 → ∀ (p q : Nat) (x y : En), p < q → E[p]? = some x → E[q]? = some y → x.2 ≠ y.2) := by
  have hk := (prs_yes hE).1
  have hlen := pm_eight h0 hE h8
  obtain ⟨E, L, e1, e2, e3, e4, e5, e6, e7⟩ := mkR_made (h := h) (k := k) (m := m) hk (prsL h k i) ho (fun s hs => ⟨prs_sub h0 hE hs, (prs_in h0 hE hs).2.2.2⟩) (by omega)
  have hL := (opn_iff.1 e4).1
  refine ⟨E, L, ?_, e2, e3, e5, ?_, e4, by omega, e6, fun hm hm0 hat p q x y hpq hx hy hxy => ?_⟩
  · unfold makA
    rw [decide_eq_true hE, ho]
    exact e1
  · have hsym : okL L (symE E) E (prsL h k i) = true := by
      cases E with
      | nil => rw [← e2]; rfl
      | cons x E =>
        rw [← e2]
        refine okL_made _ (fun z hz => ⟨(e6 z hz).1, ?_⟩)
        rw [(e6 z hz).2.1]
        unfold symE
        exact (e6 x (by simp)).2.1.symm
    unfold chk14
    rw [decide_eq_true hE, decide_eq_true hL, hsym]
    rfl
  · have hxm := List.mem_of_getElem? hx
    have hym := List.mem_of_getElem? hy
    have wx := (e6 x hxm).2.2.1 hm
    have wy := (e6 y hym).2.2.1 hm
    rw [hm0] at wx wy
    rw [hxy] at wx
    have hw := Wk.apart hL (i := 0) hat (wrd k x.1).length (wrd k x.1) (wrd k y.1) (Nat.le_refl _) wrd_opn3 wrd_opn3 _ wx wy
    have hx1 : x.1 ∈ prsL h k i := by rw [← e2]; exact List.mem_map_of_mem hxm
    have hy1 : y.1 ∈ prsL h k i := by rw [← e2]; exact List.mem_map_of_mem hym
    have my0 : ∀ s : Int × Int, s ∈ prsL h k i → k = 1 → s.2 = 0 := fun s hs h1 => by
      have := (prs_in h0 hE hs).2.2.2
      unfold myV at this
      rw [if_pos h1] at this
      simp only [Bool.and_eq_true, decide_eq_true_eq] at this
      exact this.2
    have heq := wrd_inj (prs_sub h0 hE hx1) (prs_sub h0 hE hy1) (fun h1 => ⟨my0 _ hx1 h1, my0 _ hy1 h1⟩) hw
    have hnd := prs_nodup (h := h) (k := k) (i := i) h0
    rw [← e2] at hnd
    obtain ⟨l1, g1⟩ := List.getElem?_eq_some_iff.1 hx
    obtain ⟨l2, g2⟩ := List.getElem?_eq_some_iff.1 hy
    have := List.pairwise_iff_getElem.1 hnd p q (by rw [List.length_map]; exact l1) (by rw [List.length_map]; exact l2) hpq
    apply this
    rw [List.getElem_map, List.getElem_map, g1, g2, heq]
theorem may_stop {A : List Tm} {h k i : Int} {m : Val} (hE : ¬ prsE h k i = 0) : makA A h k m i = ([], [], 1) := by
  unfold makA
  rw [decide_eq_false hE]
  rfl
end M
end Go.Proofs.Ythmiekinjfaflaa
