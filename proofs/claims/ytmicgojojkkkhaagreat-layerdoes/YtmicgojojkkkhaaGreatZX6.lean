/-
  Plain mathematics for the laws of layer 12: covers by each scheme, what is told of them in one form; bounds. No condition.
-/
import Derived.Test.YtmicgojojkkkhaaGreatZX3
import Derived.Test.YtmicgojojkkkhaaGreatZX5
namespace Go.Proofs.YtmicgojojkkkhaaGreat.M
section
variable {h k : Int} {L : List Int}
theorem ly_no (hn : (kB k && setB h L) = false) : lyL h k L = [] ∧ lyE h k L = 1 := by
  unfold lyL lyE; rw [hn]; exact ⟨rfl, rfl⟩
theorem ly_yes (hk : kB k = true) (hs : setB h L = true) : lyE h k L = 0 ∧ lyL h k L = if k = 1 then cvL h L else if k = 2 then dfL h L else ldL h L := by
  unfold lyL lyE; rw [hk, hs]; exact ⟨rfl, rfl⟩
theorem cvr_ly (hk : kB k = true) (hs : setB h L = true) : Cvr h L (lyL h k L) := by
  rw [(ly_yes hk hs).2]
  by_cases h1 : k = 1
  · rw [if_pos h1]; exact cvr_who hs
  · rw [if_neg h1]
    by_cases h2 : k = 2
    · rw [if_pos h2]; exact cvr_dif hs
    · rw [if_neg h2]; exact cvr_lay hs
theorem ly_may (hk : kB k = true) (hs : setB h L = true) : ∀ s ∈ lyL h k L, myE h k s.1 s.2 = 0 ∧ myV h k s.1 s.2 = true := by
  intro s hm
  have hsub := (cvr_ly hk hs).sub s hm
  rw [(ly_yes hk hs).2] at hm
  refine ⟨by unfold myE; rw [hk, hsub]; rfl, ?_⟩
  unfold myV
  rw [hk, hsub]
  rcases kB_of hk with rfl | rfl | rfl
  · rw [if_pos rfl] at hm
    rw [if_pos rfl, decide_eq_true (bare_sub hs s hm).2]; rfl
  · rw [if_neg (by decide), if_pos rfl] at hm
    rw [if_neg (by decide), if_pos rfl]
    by_cases h2 : s.2 = 0
    · rw [decide_eq_true (dfL_zero hs s hm h2)]; simp
    · rw [decide_eq_false h2]; rfl
  · rw [if_neg (by decide), if_neg (by decide)] at hm
    rw [if_neg (by decide), if_neg (by decide), (ldL_use hs s hm).2]; rfl
theorem ly_bound (hk : kB k = true) (hs : setB h L = true) (hl : L.length ≤ 30) : lbE h k L.length = 0 ∧ ((lyL h k L).length : Int) ≤ lbV h k L.length ∧ lbV h k L.length ≤ 40000 := by
  obtain ⟨hc, b2⟩ := dfL_bound hs
  obtain ⟨-, -, b3⟩ := bound_facts hs
  obtain ⟨s1, s2, s3, s4, s5⟩ := cnt_of hc
  have e : lbE h k L.length = 0 := by unfold lbE; rw [hk, hc]; rfl
  have ev : lbV h k L.length = if k = 1 then bdV h L.length else if k = 2 then dbV h L.length else if (L.length : Int) = 0 then 1 else 2 * (2 * (L.length : Int) - 1) := by unfold lbV; rw [hk, hc]; rfl
  refine ⟨e, ?_⟩
  rw [ev, (ly_yes hk hs).2]
  have hdb : dbV h L.length = if (L.length : Int) = 0 then 1 else 2 * (L.length : Int) - 1 := by unfold dbV; rw [hc]; rfl
  rcases kB_of hk with rfl | rfl | rfl
  · rw [if_pos rfl, if_pos rfl]
    have e1 : (cvL h L).length = (thV h L).length := bare_length _
    refine ⟨by rw [e1]; exact b3, ?_⟩
    unfold bdV
    rw [hc, if_pos rfl]
    by_cases h0 : (L.length : Int) = 0
    · rw [if_pos h0]; decide
    · rw [if_neg h0]
      obtain ⟨d1, d2⟩ := dep_many s1 s2 (show 1 ≤ (L.length : Int) by omega) s5
      have := (mul_bd (a := (L.length : Int)) (b := h - dep L.length) s3 s4 (by omega) (by omega)).2
      omega
  · rw [if_neg (by decide), if_pos rfl, if_neg (by decide), if_pos rfl]
    refine ⟨b2, ?_⟩
    rw [hdb]; split <;> omega
  · rw [if_neg (by decide), if_neg (by decide), if_neg (by decide), if_neg (by decide)]
    have h3 := (ldL_len (h := h) (L := L) hs).2
    rw [hdb] at b2
    by_cases h0 : (L.length : Int) = 0
    · rw [if_pos h0]
      have hL : L = [] := List.eq_nil_of_length_eq_zero (by omega)
      subst hL
      have hx : ldL h [] = [(1, 0)] := by
        unfold ldL
        rw [dfL_nil hs]
        rfl
      rw [hx]; decide
    · rw [if_neg h0] at b2 ⊢
      omega
end
end Go.Proofs.YtmicgojojkkkhaaGreat.M
