/-
  Plain mathematics of what is made: what was found stays, what is made twice is made once. No condition.
-/
import Derived.Test.YthbacijbgjmigaaZNT
namespace Go.Proofs.Ythbacijbgjmigaa
namespace M
theorem may_mono {t : Tm} {i j : Int} (h : mayB t i = true) (hij : i ≤ j) : mayB t j = true := by
  rcases may_kind h with ⟨h1, h2, h3, h4⟩ | ⟨h1, h2, h3, h4⟩ | ⟨h1, h2, h3, h4, h5⟩
  · unfold mayB; rw [if_pos h1]; simp [h2, h3, h4]
  · unfold mayB; rw [if_neg (by omega), if_pos h1]; simp [ahd_iff, h2, h4]; omega
  · unfold mayB; rw [if_neg (by omega), if_neg (by omega), if_pos h1]; simp [ahd_iff, h2, h4]; omega
theorem find_zero {l : List Tm} {t : Tm} (h : findE l t = 0) : Ok l ∧ mayB t l.length = true ∧ ∃ i, plc t l = some i ∧ findV l t = i := by
  have h' := h
  unfold findE at h
  by_cases hc : Ok l ∧ mayB t l.length = true
  · rw [if_pos hc] at h
    cases hp : plc t l with
    | none => rw [hp] at h; simp at h
    | some i => exact ⟨hc.1, hc.2, i, rfl, by unfold findV; rw [if_pos h', plcI_some hp]⟩
  · rw [if_neg hc] at h; simp at h
theorem find_of {l : List Tm} {t : Tm} {i : Nat} (hl : Ok l) (hm : mayB t l.length = true) (hp : plc t l = some i) : findE l t = 0 ∧ findV l t = i := by
  have e : findE l t = 0 := by unfold findE; rw [if_pos ⟨hl, hm⟩, if_neg (by rw [hp]; simp)]
  exact ⟨e, by unfold findV; rw [if_pos e, plcI_some hp]⟩
/-- what makes: found there, or put behind -/
theorem make_zero {l : List Tm} {t : Tm} (h : makeE l t = 0) : Ok l ∧ mayB t l.length = true ∧
    ((∃ i, plc t l = some i ∧ makeL l t = l ∧ makeV l t = i) ∨ (plc t l = none ∧ l.length < 65536 ∧ makeL l t = l ++ [t] ∧ makeV l t = l.length)) := by
  have h' := h
  unfold makeE at h
  by_cases h4 : findE l t = 4
  · rw [if_pos h4] at h
    by_cases h6 : l.length = 65536
    · rw [if_pos h6] at h; simp at h
    · have hc : Ok l ∧ mayB t l.length = true := by
        rcases Classical.em (Ok l ∧ mayB t l.length = true) with h | h
        · exact h
        · unfold findE at h4; rw [if_neg h] at h4; simp at h4
      have hp : plc t l = none := by
        rcases Classical.em (plc t l = none) with h | h
        · exact h
        · unfold findE at h4; rw [if_pos hc, if_neg h] at h4; simp at h4
      have hl := hc.1.1
      exact ⟨hc.1, hc.2, .inr ⟨hp, by omega, by unfold makeL; rw [if_neg (by omega), if_pos h'], by unfold makeV; rw [if_neg (by omega), if_pos h']⟩⟩
  · rw [if_neg h4] at h
    obtain ⟨h1, h2, i, h3, h5⟩ := find_zero h
    exact ⟨h1, h2, .inl ⟨i, h3, by unfold makeL; rw [if_pos h], by unfold makeV; rw [if_pos h, plcI_some h3]⟩⟩
theorem make_ok {l : List Tm} {t : Tm} (h : makeE l t = 0) : Ok (makeL l t) := by
  obtain ⟨h1, h2, ⟨i, h3, h4, _⟩ | ⟨h3, h4, h5, _⟩⟩ := make_zero h
  · rw [h4]; exact h1
  · rw [h5]; exact h1.more h2 h3 (by omega)
theorem make_len {l : List Tm} {t : Tm} (h : makeE l t = 0) : l.length ≤ (makeL l t).length ∧ (makeL l t).length ≤ l.length + 1 ∧ (makeL l t).take l.length = l := by
  obtain ⟨_, _, ⟨i, _, h4, _⟩ | ⟨_, _, h5, _⟩⟩ := make_zero h
  · rw [h4]; simp
  · rw [h5]; simp
/-- what is made is there, where it is told -/
theorem make_there {l : List Tm} {t : Tm} (h : makeE l t = 0) : ∃ i : Nat, makeV l t = i ∧ i < (makeL l t).length ∧ at_ (makeL l t) i = t ∧ plc t (makeL l t) = some i ∧ mayB t (makeL l t).length = true := by
  have hk := make_ok h
  obtain ⟨h1, h2, ⟨i, h3, h4, h5⟩ | ⟨h3, h4, h5, h6⟩⟩ := make_zero h
  · obtain ⟨p1, p2, _⟩ := plc_lt h3
    rw [h4]
    exact ⟨i, h5, p1, p2, h3, h2⟩
  · rw [h5] at hk ⊢
    have hl : l.length < (l ++ [t]).length := by simp
    refine ⟨l.length, h6, hl, at_last, ?_, may_mono h2 (by simp; omega)⟩
    have := hk.place hl
    rwa [at_last] at this
theorem make_again {l : List Tm} {t : Tm} (h : makeE l t = 0) : makeE (makeL l t) t = 0 ∧ makeL (makeL l t) t = makeL l t ∧ makeV (makeL l t) t = makeV l t ∧ findE (makeL l t) t = 0 ∧ findV (makeL l t) t = makeV l t := by
  obtain ⟨i, h1, h2, h3, h4, h5⟩ := make_there h
  obtain ⟨f1, f2⟩ := find_of (make_ok h) h5 h4
  refine ⟨by unfold makeE; rw [if_neg (by omega), f1], by rw [makeL, if_pos f1], by rw [makeV, if_pos f1, plcI_some h4, h1], f1, by rw [f2, h1]⟩
/-- what was found stays -/
theorem find_stays {l : List Tm} {t o : Tm} (h : findE l o = 0) (hm : makeE l t = 0) : findE (makeL l t) o = 0 ∧ findV (makeL l t) o = findV l o := by
  obtain ⟨h1, h2, i, h3, h4⟩ := find_zero h
  rw [h4]
  have hk := make_ok hm
  obtain ⟨_, _, ⟨_, _, e, _⟩ | ⟨_, _, e, _⟩⟩ := make_zero hm
  · rw [e]; exact find_of h1 h2 h3
  · rw [e] at hk ⊢
    exact find_of hk (may_mono h2 (by simp; omega)) (plc_append h3)
theorem make_fit {l : List Tm} {t : Tm} {P : Tm → Prop} (hl : ∀ x ∈ l, P x) (ht : P t) : ∀ x ∈ makeL l t, P x := by
  intro x hx
  unfold makeL at hx
  split at hx
  · exact hl x hx
  · split at hx
    · rcases List.mem_append.1 hx with h | h
      · exact hl x h
      · rw [List.mem_singleton] at h; rw [h]; exact ht
    · simp at hx
theorem make_none {l : List Tm} {t : Tm} (h : ¬ makeE l t = 0) : makeL l t = [] := by
  unfold makeL
  rw [if_neg, if_neg h]
  intro e
  apply h
  unfold makeE; rw [if_neg (by omega), e]
theorem tmod_cut (a : Int) (n : Nat) : ∃ r : Int, a.tmod ((n : Int) + 1) = r ∧ -(n : Int) ≤ r ∧ r ≤ n ∧ ∃ c : Nat, (r + n + 1).tmod ((n : Int) + 1) = c ∧ c ≤ n := by
  refine ⟨_, rfl, ?_, ?_, ?_⟩
  · have h1 := Int.tmod_lt_of_pos (-a) (show 0 < (n : Int) + 1 by omega)
    rw [Int.neg_tmod] at h1
    omega
  · have h1 := Int.tmod_lt_of_pos a (show 0 < (n : Int) + 1 by omega)
    omega
  · have h0 : 0 ≤ a.tmod ((n : Int) + 1) + n + 1 := by
      have h1 := Int.tmod_lt_of_pos (-a) (show 0 < (n : Int) + 1 by omega)
      rw [Int.neg_tmod] at h1
      omega
    have h1 := Int.tmod_nonneg ((n : Int) + 1) h0
    have h2 := Int.tmod_lt_of_pos (a.tmod ((n : Int) + 1) + n + 1) (show 0 < (n : Int) + 1 by omega)
    exact ⟨((a.tmod ((n : Int) + 1) + n + 1).tmod ((n : Int) + 1)).toNat, by omega, by omega⟩
end M
end Go.Proofs.Ythbacijbgjmigaa
