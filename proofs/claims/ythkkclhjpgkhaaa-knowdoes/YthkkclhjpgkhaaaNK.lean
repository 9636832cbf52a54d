/-
  Plain mathematics of what is known: what follows at once, the least shut set, chains. No condition.
-/
import Derived.Test.YthkkclhjpgkhaaaT9
namespace Go.Proofs.Ythkkclhjpgkhaaa
namespace M
/-- a place of the list -/
abbrev Pl (A : List Tm) (i : Int) : Prop := 0 ≤ i ∧ i < A.length
/-- the term at a place -/
abbrev tm (A : List Tm) (i : Int) : Tm := at_ A i.toNat
/-- what follows at once from a set -/
def Fol (A : List Tm) (S : Int → Prop) (i : Int) : Prop :=
  (((tm A i).1 = 2 ∨ (tm A i).1 = 3 ∨ (tm A i).1 = 4) ∧ S (tm A i).2.1) ∨ ((tm A i).1 = 5 ∧ S (tm A i).2.1 ∧ S (tm A i).2.2) ∨ ∃ k, S k ∧ (tm A k).1 = 5 ∧ (tm A k).2.2 = i ∧ S (tm A k).2.1
theorem Fol.mono {A : List Tm} {S T : Int → Prop} {i : Int} (h : ∀ x, S x → T x) (f : Fol A S i) : Fol A T i := by
  rcases f with ⟨a, b⟩ | ⟨a, b, c⟩ | ⟨k, a, b, c, d⟩
  · exact .inl ⟨a, h _ b⟩
  · exact .inr (.inl ⟨a, h _ b, h _ c⟩)
  · exact .inr (.inr ⟨k, h _ a, b, c, h _ d⟩)
/-- what is known: the least shut set -/
def Kn (A : List Tm) (H : List Int) (i : Int) : Prop := ∀ S : Int → Prop, (∀ h ∈ H, S h) → (∀ j, Pl A j → Fol A S j → S j) → S i
theorem Kn.base {A : List Tm} {H : List Int} {i : Int} (h : i ∈ H) : Kn A H i := fun _ h0 _ => h0 i h
theorem Kn.shut {A : List Tm} {H : List Int} {j : Int} (hp : Pl A j) (h : Fol A (Kn A H) j) : Kn A H j := fun S h0 h1 => h1 j hp (h.mono fun _ hx => hx S h0 h1)
theorem Kn.least {A : List Tm} {H : List Int} {S : Int → Prop} (h0 : ∀ h ∈ H, S h) (h1 : ∀ j, Pl A j → Fol A S j → S j) {i : Int} (h : Kn A H i) : S i := h S h0 h1
theorem Kn.ind {A : List Tm} {H : List Int} {S : Int → Prop} (h0 : ∀ h ∈ H, S h) (h1 : ∀ j, Pl A j → Fol A (fun x => Kn A H x ∧ S x) j → S j) {i : Int} (h : Kn A H i) : S i :=
  (h (fun x => Kn A H x ∧ S x) (fun x hx => ⟨.base hx, h0 x hx⟩) fun j hp hf => ⟨.shut hp (hf.mono fun _ h => h.1), h1 j hp hf⟩).2
theorem Kn.pl {A : List Tm} {H : List Int} (hH : ∀ h ∈ H, Pl A h) {i : Int} (h : Kn A H i) : Pl A i := h.least hH fun _ hp _ => hp
theorem Kn.mono {A : List Tm} {H H' : List Int} (hH : ∀ h ∈ H, Kn A H' h) {i : Int} (h : Kn A H i) : Kn A H' i := h.least hH fun _ hp hf => .shut hp hf
theorem Kn.sub {A : List Tm} {H H' : List Int} (hH : ∀ h ∈ H, h ∈ H') {i : Int} (h : Kn A H i) : Kn A H' i := h.mono fun x hx => .base (hH x hx)
theorem Kn.nil {A : List Tm} {i : Int} : ¬ Kn A [] i := fun h => by
  refine h.least (S := fun _ => False) (fun _ h => by cases h) fun j _ hf => ?_
  rcases hf with ⟨_, b⟩ | ⟨_, b, _⟩ | ⟨_, a, _⟩
  · exact b
  · exact b
  · exact a
theorem Kn.idem {A : List Tm} {H L : List Int} (hL : ∀ x, x ∈ L ↔ Kn A H x) {i : Int} : Kn A L i ↔ Kn A H i :=
  ⟨fun h => h.mono fun x hx => (hL x).1 hx, fun h => .base ((hL i).2 h)⟩
/-- a set that has what one has, and is shut, and all of which is known, is what is known -/
theorem Kn.eq {A : List Tm} {H L : List Int} (h0 : ∀ h ∈ H, h ∈ L) (h1 : ∀ j, Pl A j → Fol A (· ∈ L) j → j ∈ L) (h2 : ∀ x ∈ L, Kn A H x) (i : Int) : i ∈ L ↔ Kn A H i := ⟨h2 i, fun h => h.least h0 h1⟩
/-- as a function of places -/
theorem kn_fun (A : List Tm) (H : List Int) : ∃ f : Nat → Bool, ∀ j : Nat, f j = true ↔ Kn A H j := by
  classical
  exact ⟨fun j => decide (Kn A H j), fun j => by simp⟩
theorem mem_outL {A : List Tm} {H : List Int} (hH : ∀ h ∈ H, Pl A h) {f : Nat → Bool} (hf : ∀ j : Nat, f j = true ↔ Kn A H j) (x : Int) : x ∈ outL f A.length ↔ Kn A H x := by
  rw [outL_mem]
  constructor
  · rintro ⟨j, _, h, rfl⟩; exact (hf j).1 h
  · intro h
    obtain ⟨h0, h1⟩ := h.pl hH
    exact ⟨x.toNat, by omega, (hf _).2 (by rwa [Int.toNat_of_nonneg h0]), by omega⟩
theorem outL_congr {f g : Nat → Bool} {n : Nat} (h : ∀ j, j < n → f j = g j) : outL f n = outL g n := by
  unfold outL
  congr 1
  exact List.filter_congr fun j hj => h j (List.mem_range.1 hj)
theorem outL_rising (f : Nat → Bool) : ∀ n, (outL f n).Pairwise (· < ·)
  | 0 => by simp [outL]
  | n + 1 => by
    cases h : f n with
    | false => rw [outL_no f n h]; exact outL_rising f n
    | true =>
      rw [outL_yes f n h, List.pairwise_append]
      refine ⟨outL_rising f n, by simp, fun x hx y hy => ?_⟩
      obtain ⟨j, hj, _, rfl⟩ := (outL_mem f n x).1 hx
      rw [List.mem_singleton] at hy
      omega
/-- a chain -/
def Chn (A : List Tm) (H L : List Int) : Prop := ∀ k, k < L.length → (L[k]?.getD 0) ∉ L.take k ∧ ((L[k]?.getD 0) ∈ H ∨ Fol A (· ∈ L.take k) (L[k]?.getD 0))
theorem Chn.take {A : List Tm} {H L : List Int} (h : Chn A H L) (c : Nat) : Chn A H (L.take c) := by
  intro k hk
  rw [List.length_take] at hk
  have := h k (by omega)
  rw [List.take_take, Nat.min_eq_left (by omega), List.getElem?_take, if_pos (by omega)]
  exact this
theorem Chn.known {A : List Tm} {H L : List Int} (hL : ∀ x ∈ L, Pl A x) (h : Chn A H L) : ∀ k, k ≤ L.length → ∀ x ∈ L.take k, Kn A H x
  | 0, _, x, hx => by simp at hx
  | k + 1, hk, x, hx => by
    rw [List.take_succ_eq_append_getElem (by omega), List.mem_append, List.mem_singleton] at hx
    have ih := Chn.known hL h k (by omega)
    rcases hx with hx | rfl
    · exact ih x hx
    · have := (h k (by omega)).2
      rw [List.getElem?_eq_getElem (by omega), Option.getD_some] at this
      rcases this with h1 | h1
      · exact .base h1
      · exact .shut (hL _ (List.getElem_mem _)) (h1.mono fun y hy => ih y hy)
theorem Chn.all {A : List Tm} {H L : List Int} (hL : ∀ x ∈ L, Pl A x) (h : Chn A H L) {x : Int} (hx : x ∈ L) : Kn A H x := Chn.known hL h L.length (Nat.le_refl _) x (by rwa [List.take_length])
/-- an atom that is known is within something that one has -/
theorem Kn.atom {A : List Tm} {H : List Int} (hH : ∀ h ∈ H, Pl A h) {i : Int} (h : Kn A H i) (a : Nat) (ha : (at_ A a).1 = 1) (hr : Rk A i.toNat 0 a) : ∃ h ∈ H, Rk A h.toNat 0 a := by
  suffices key : Pl A i ∧ ∀ a : Nat, (at_ A a).1 = 1 → Rk A i.toNat 0 a → ∃ h ∈ H, Rk A h.toNat 0 a from key.2 a ha hr
  refine h.ind (S := fun i => Pl A i ∧ ∀ a : Nat, (at_ A a).1 = 1 → Rk A i.toNat 0 a → ∃ h ∈ H, Rk A h.toNat 0 a) (fun x hx => ⟨hH x hx, fun a _ hr => ⟨x, hx, hr⟩⟩) fun j hp hf => ⟨hp, fun a ha hr => ?_⟩
  -- from j one comes to a by way of one of its parts
  have first : ∀ {i j : Nat}, Rk A i 0 j → j = i ∨ ∃ p ∈ parts (at_ A i), Rk A p.toNat 0 j := by
    intro i j h
    refine h.ind (P := fun j => j = i ∨ ∃ p ∈ parts (at_ A i), Rk A p.toNat 0 j) (.inl rfl) fun b p _ ih _ hp => ?_
    rcases ih with rfl | ⟨q, hq, h2⟩
    · exact .inr ⟨p, hp, .self⟩
    · exact .inr ⟨q, hq, h2.step (by omega) hp⟩
  rcases hf with ⟨k1, b⟩ | ⟨k1, b, c⟩ | ⟨k, b, k1, e, c⟩
  · replace k1 : (at_ A j.toNat).1 = 2 ∨ (at_ A j.toNat).1 = 3 ∨ (at_ A j.toNat).1 = 4 := k1
    rcases first hr with rfl | ⟨p, hp, h2⟩
    · have : (at_ A j.toNat).1 = 1 := ha
      omega
    · have e : parts (at_ A j.toNat) = [(at_ A j.toNat).2.1] := by unfold parts; rw [if_pos k1]
      rw [e, List.mem_singleton] at hp
      subst hp
      exact b.2.2 a ha h2
  · replace k1 : (at_ A j.toNat).1 = 5 := k1
    rcases first hr with rfl | ⟨p, hp, h2⟩
    · have : (at_ A j.toNat).1 = 1 := ha
      omega
    · have e : parts (at_ A j.toNat) = [(at_ A j.toNat).2.1, (at_ A j.toNat).2.2] := by unfold parts; rw [if_neg (by omega), if_pos k1]
      rw [e] at hp
      simp only [List.mem_cons, List.not_mem_nil, or_false] at hp
      rcases hp with rfl | rfl
      · exact b.2.2 a ha h2
      · exact c.2.2 a ha h2
  · replace k1 : (at_ A k.toNat).1 = 5 := k1
    refine b.2.2 a ha ?_
    have e2 : parts (at_ A k.toNat) = [(at_ A k.toNat).2.1, (at_ A k.toNat).2.2] := by unfold parts; rw [if_neg (by omega), if_pos k1]
    have hs : Rk A k.toNat 0 j.toNat := by
      have := (Rk.self (A := A) (i := k.toNat) (c := 0)).step (p := j) (Nat.zero_le _) (by rw [e2]; simp [← e])
      exact this
    exact hr.ind (P := fun x => Rk A k.toNat 0 x) hs fun b p _ ih hc hp => ih.step hc hp
end M
end Go.Proofs.Ythkkclhjpgkhaaa
