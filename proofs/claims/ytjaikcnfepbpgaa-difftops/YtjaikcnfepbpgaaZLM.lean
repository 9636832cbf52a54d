/-
  Plain mathematics of sets of leaves: rising lists, gaps, spans, and what each call of layer 2 answers. No condition.
-/
import Derived.Test.YtjaikcnfepbpgaaZM2
namespace Go.Proofs.Ytjaikcnfepbpgaa.M
/-- rising from 'least' on, none above 'last' -/
def rise : Int → Int → List Int → Bool
  | _, _, [] => true
  | least, last, i :: t => decide (least ≤ i) && decide (i ≤ last) && rise (i + 1) last t
/-- a set of leaves of a height -/
def setB (h : Int) (L : List Int) : Bool := htB h && decide (L.length ≤ 1024) && rise 0 (p2 h - 1) L
def setE (h : Int) (L : List Int) : Int := if setB h L then 0 else 1
/-- there is such a leaf -/
def isB (h i : Int) : Bool := htB h && decide (i < p2 h)
def has (L : List Int) (i : Int) : Bool := decide (i ∈ L)
def pos (L : List Int) (i : Int) : Nat := (L.filter (fun x => decide (x < i))).length
def findE (h : Int) (L : List Int) (i : Int) : Int := if setB h L && isB h i then 0 else 1
def findN (h : Int) (L : List Int) (i : Int) : Int := if findE h L i = 0 then (pos L i : Int) else 0
def hasV (h : Int) (L : List Int) (i : Int) : Bool := decide (findE h L i = 0) && has L i
def withE (h : Int) (L : List Int) (i : Int) : Int := if findE h L i = 0 then (if has L i then 5 else if L.length = 1024 then 6 else 0) else 1
def withL (L : List Int) (i : Int) : List Int := L.filter (fun x => decide (x < i)) ++ [i] ++ L.filter (fun x => decide (i < x))
def withV (h : Int) (L : List Int) (i : Int) : List Int := if withE h L i = 0 then withL L i else []
def outE (h : Int) (L : List Int) (i : Int) : Int := if findE h L i = 0 then (if has L i then 0 else 4) else 1
def outL (L : List Int) (i : Int) : List Int := L.filter (fun x => decide (x ≠ i))
def outV (h : Int) (L : List Int) (i : Int) : List Int := if outE h L i = 0 then outL L i else []
def belE (h : Int) (L : List Int) (n : Int) : Int := if setB h L && okB h n then 0 else 1
def belL (lo hi : Int) (L : List Int) : List Int := L.filter (fun x => decide (lo ≤ x) && decide (x ≤ hi))
def belV (h : Int) (L : List Int) (n : Int) : List Int := if belE h L n = 0 then belL (low h n) (high h n) L else []
/-- the spans between -/
def gapsL : Int → Int → List Int → List (Int × Int)
  | least, last, [] => if least ≤ last then [(least, last)] else []
  | least, last, i :: t => (if least < i then [(least, i - 1)] else []) ++ gapsL (i + 1) last t
def gapsV (h : Int) (L : List Int) : List (Int × Int) := if setB h L then gapsL 0 (p2 h - 1) L else []
/-- spans that rise, apart, none above 'last' -/
def spans : Int → Int → List (Int × Int) → Bool
  | _, _, [] => true
  | least, last, s :: t => decide (least ≤ s.1) && decide (s.1 ≤ s.2) && decide (s.2 ≤ last) && spans (s.2 + 1) last t
def many : List (Int × Int) → Int
  | [] => 0
  | s :: t => (s.2 - s.1 + 1) + many t
def manyB (h : Int) (S : List (Int × Int)) : Bool := htB h && spans 0 (p2 h - 1) S
def manyE (h : Int) (S : List (Int × Int)) : Int := if manyB h S then 0 else 1
def manyV (h : Int) (S : List (Int × Int)) : Int := if manyB h S then many S else 0

theorem ht_of {h : Int} (hh : htB h = true) : 1 ≤ h ∧ h ≤ 32 := by unfold htB at hh; simpa using hh
theorem ht_mk {h : Int} (h1 : 1 ≤ h) (h2 : h ≤ 32) : htB h = true := by unfold htB; simp [h1, h2]
theorem ok_one (h : Int) : okB h 1 = htB h := by
  unfold okB htB
  have := p2_pos h
  by_cases h1 : 1 ≤ h <;> by_cases h2 : h ≤ 32 <;> simp [h1, h2] <;> omega
theorem low_one (h : Int) : low h 1 = 0 := by
  have : dep 1 = 0 := by decide +kernel
  unfold low; rw [this]; simp
theorem high_one (h : Int) : high h 1 = p2 h - 1 := by
  have : dep 1 = 0 := by decide +kernel
  unfold high; rw [low_one, this]; simp
theorem lowV_one (h : Int) : lowV h 1 = 0 := by unfold lowV; rw [low_one]; simp
theorem highV_one (h : Int) : highV h 1 = if htB h then p2 h - 1 else 0 := by unfold highV; rw [high_one, ok_one]
theorem eChk_one (h : Int) : eChk h 1 = if htB h then 0 else 1 := by unfold eChk; rw [ok_one]

theorem rise_of : ∀ {L : List Int} {least last : Int}, rise least last L = true → L.Pairwise (· < ·) ∧ ∀ x ∈ L, least ≤ x ∧ x ≤ last
  | [], _, _, _ => ⟨List.Pairwise.nil, by simp⟩
  | i :: t, least, last, h => by
    simp only [rise, Bool.and_eq_true, decide_eq_true_eq] at h
    obtain ⟨⟨h1, h2⟩, h3⟩ := h
    obtain ⟨h4, h5⟩ := rise_of h3
    refine ⟨List.pairwise_cons.2 ⟨fun x hx => by have := (h5 x hx).1; omega, h4⟩, ?_⟩
    intro x hx
    rcases List.mem_cons.1 hx with rfl | hx
    · exact ⟨h1, h2⟩
    · have := h5 x hx; omega
theorem rise_mk : ∀ {L : List Int} {least last : Int}, L.Pairwise (· < ·) → (∀ x ∈ L, least ≤ x ∧ x ≤ last) → rise least last L = true
  | [], _, _, _, _ => rfl
  | i :: t, least, last, h, hb => by
    obtain ⟨h1, h2⟩ := List.pairwise_cons.1 h
    simp only [rise, Bool.and_eq_true, decide_eq_true_eq]
    refine ⟨hb i (by simp), rise_mk h2 fun x hx => ?_⟩
    have := h1 x hx
    have := hb x (by simp [hx])
    omega
theorem set_of {h : Int} {L : List Int} (hs : setB h L = true) : 1 ≤ h ∧ h ≤ 32 ∧ L.length ≤ 1024 ∧ rise 0 (p2 h - 1) L = true ∧ L.Pairwise (· < ·) ∧ ∀ x ∈ L, 0 ≤ x ∧ x < p2 h := by
  unfold setB at hs
  simp only [Bool.and_eq_true, decide_eq_true_eq] at hs
  obtain ⟨⟨h1, h2⟩, h3⟩ := hs
  obtain ⟨h4, h5⟩ := rise_of h3
  exact ⟨(ht_of h1).1, (ht_of h1).2, h2, h3, h4, fun x hx => by have := h5 x hx; omega⟩
theorem set_mk {h : Int} {L : List Int} (h1 : 1 ≤ h) (h2 : h ≤ 32) (h3 : L.length ≤ 1024) (h4 : L.Pairwise (· < ·)) (h5 : ∀ x ∈ L, 0 ≤ x ∧ x < p2 h) : setB h L = true := by
  unfold setB
  simp only [Bool.and_eq_true, decide_eq_true_eq]
  exact ⟨⟨ht_mk h1 h2, h3⟩, rise_mk h4 fun x hx => by have := h5 x hx; omega⟩
/-- two rising lists of the same members are one -/
theorem rising_ext : ∀ {L K : List Int}, L.Pairwise (· < ·) → K.Pairwise (· < ·) → (∀ x, x ∈ L ↔ x ∈ K) → L = K
  | [], [], _, _, _ => rfl
  | [], k :: K, _, _, h => by have := (h k).2 (by simp); simp at this
  | l :: L, [], _, _, h => by have := (h l).1 (by simp); simp at this
  | l :: L, k :: K, hL, hK, h => by
    obtain ⟨l1, l2⟩ := List.pairwise_cons.1 hL
    obtain ⟨k1, k2⟩ := List.pairwise_cons.1 hK
    have e : l = k := by
      rcases List.mem_cons.1 ((h l).1 (by simp)) with h1 | h1
      · exact h1
      · rcases List.mem_cons.1 ((h k).2 (by simp)) with h2 | h2
        · exact h2.symm
        · have := k1 l h1; have := l1 k h2; omega
    subst e
    congr 1
    refine rising_ext l2 k2 fun x => ?_
    constructor
    · intro hx
      rcases List.mem_cons.1 ((h x).1 (by simp [hx])) with h1 | h1
      · have := l1 x hx; omega
      · exact h1
    · intro hx
      rcases List.mem_cons.1 ((h x).2 (by simp [hx])) with h1 | h1
      · have := k1 x hx; omega
      · exact h1
theorem withL_rising {L : List Int} {i : Int} (hL : L.Pairwise (· < ·)) : (withL L i).Pairwise (· < ·) := by
  unfold withL
  rw [List.pairwise_append, List.pairwise_append]
  refine ⟨⟨hL.filter _, by simp, ?_⟩, hL.filter _, ?_⟩
  · intro a ha b hb
    simp only [List.mem_filter, decide_eq_true_eq, List.mem_singleton] at ha hb
    omega
  · intro a ha b hb
    simp only [List.mem_append, List.mem_filter, decide_eq_true_eq, List.mem_singleton] at ha hb
    omega
theorem withL_mem {L : List Int} {i x : Int} : x ∈ withL L i ↔ x ∈ L ∨ x = i := by
  unfold withL
  simp only [List.mem_append, List.mem_filter, decide_eq_true_eq, List.mem_singleton]
  constructor
  · rintro ((h | h) | h)
    · exact .inl h.1
    · exact .inr h
    · exact .inl h.1
  · rintro (h | h)
    · by_cases h1 : x < i
      · exact .inl (.inl ⟨h, h1⟩)
      · by_cases h2 : i < x
        · exact .inr ⟨h, h2⟩
        · exact .inl (.inr (by omega))
    · exact .inl (.inr h)
/-- a list parted by a leaf -/
theorem parts : ∀ {L : List Int} (i : Int), L.Pairwise (· < ·) → L.filter (fun x => decide (x < i)) ++ L.filter (fun x => decide (i ≤ x)) = L
  | [], _, _ => rfl
  | a :: t, i, h => by
    obtain ⟨h1, h2⟩ := List.pairwise_cons.1 h
    by_cases ha : a < i
    · rw [List.filter_cons_of_pos (by simpa using ha), List.filter_cons_of_neg (by simp; omega), List.cons_append, parts i h2]
    · have e1 : t.filter (fun x => decide (x < i)) = [] := List.filter_eq_nil_iff.2 fun x hx => by have := h1 x hx; simp; omega
      have e2 : t.filter (fun x => decide (i ≤ x)) = t := List.filter_eq_self.2 fun x hx => by have := h1 x hx; simp; omega
      rw [List.filter_cons_of_neg (by simp; omega), List.filter_cons_of_pos (by simp; omega), e1, e2]; rfl
theorem take_pos {L : List Int} {i : Int} (h : L.Pairwise (· < ·)) : L.take (pos L i) = L.filter (fun x => decide (x < i)) := by
  have := parts i h
  unfold pos
  conv => lhs; arg 2; rw [← this]
  exact List.take_left
theorem drop_pos {L : List Int} {i : Int} (h : L.Pairwise (· < ·)) : L.drop (pos L i) = L.filter (fun x => decide (i ≤ x)) := by
  have := parts i h
  unfold pos
  conv => lhs; arg 2; rw [← this]
  exact List.drop_left
theorem pos_le (L : List Int) (i : Int) : pos L i ≤ L.length := List.length_filter_le _ _
theorem filter_ge_out {L : List Int} {i : Int} (hi : has L i = false) : L.filter (fun x => decide (i ≤ x)) = L.filter (fun x => decide (i < x)) := by
  unfold has at hi
  simp only [decide_eq_false_iff_not] at hi
  refine List.filter_congr fun x hx => ?_
  have : x ≠ i := fun e => hi (e ▸ hx)
  simp; omega
theorem filter_ge_in {L : List Int} {i : Int} (h : L.Pairwise (· < ·)) (hi : has L i = true) : L.filter (fun x => decide (i ≤ x)) = i :: L.filter (fun x => decide (i < x)) := by
  unfold has at hi
  simp only [decide_eq_true_eq] at hi
  refine rising_ext (h.filter _) ?_ fun x => ?_
  · refine List.pairwise_cons.2 ⟨fun x hx => by simp at hx; omega, h.filter _⟩
  · simp only [List.mem_filter, decide_eq_true_eq, List.mem_cons]
    constructor
    · rintro ⟨h1, h2⟩
      by_cases e : x = i
      · exact .inl e
      · exact .inr ⟨h1, by omega⟩
    · rintro (rfl | ⟨h1, h2⟩)
      · exact ⟨hi, Int.le_refl _⟩
      · exact ⟨h1, by omega⟩
theorem with_parts {L : List Int} {i : Int} (h : L.Pairwise (· < ·)) (hi : has L i = false) : L.take (pos L i) ++ ([i] ++ L.drop (pos L i)) = withL L i := by
  rw [take_pos h, drop_pos h, filter_ge_out hi]; unfold withL; rw [List.append_assoc]
theorem outL_parts {L : List Int} {i : Int} (h : L.Pairwise (· < ·)) : outL L i = L.filter (fun x => decide (x < i)) ++ L.filter (fun x => decide (i < x)) := by
  refine rising_ext (h.filter _) ?_ fun x => ?_
  · rw [List.pairwise_append]
    refine ⟨h.filter _, h.filter _, fun a ha b hb => ?_⟩
    simp only [List.mem_filter, decide_eq_true_eq] at ha hb
    omega
  · unfold outL
    simp only [List.mem_filter, decide_eq_true_eq, List.mem_append]
    constructor
    · rintro ⟨h1, h2⟩
      by_cases e : x < i
      · exact .inl ⟨h1, e⟩
      · exact .inr ⟨h1, by omega⟩
    · rintro (⟨h1, h2⟩ | ⟨h1, h2⟩) <;> exact ⟨h1, by omega⟩
theorem out_parts {L : List Int} {i : Int} (h : L.Pairwise (· < ·)) (hi : has L i = true) : pos L i + 1 ≤ L.length ∧ L.take (pos L i) ++ L.drop (pos L i + 1) = outL L i := by
  have h1 := drop_pos (i := i) h
  rw [filter_ge_in h hi] at h1
  have h2 : L.drop (pos L i + 1) = L.filter (fun x => decide (i < x)) := by
    rw [show pos L i + 1 = 1 + pos L i by omega, Nat.add_comm 1, ← List.drop_drop, h1]; rfl
  refine ⟨?_, by rw [take_pos h, h2, outL_parts h]⟩
  have := congrArg List.length h1
  simp at this
  omega
end Go.Proofs.Ytjaikcnfepbpgaa.M
