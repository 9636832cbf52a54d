/-
  Plain mathematics of sets of leaves: rising lists, gaps, spans, and what each call of layer 2 answers. No condition.
-/
import Derived.Test.YthmiekinjfaflaaGreatZMath
namespace Go.Proofs.YthmiekinjfaflaaGreat.M
/-- rising from 'least' on, none above 'last' -/
def rise : Int → Int → List Int → Bool
  | _, _, [] => true
  | least, last, i :: t => decide (least ≤ i) && decide (i ≤ last) && rise (i + 1) last t
/-- a set of leaves of a height -/
def setB (h : Int) (L : List Int) : Bool := htB h && decide (L.length ≤ 1024) && rise 0 (p2 h - 1) L
def setE (h : Int) (L : List Int) : Int := if setB h L then 0 else 1
/-- there is such a leaf -/
def isB (h i : Int) : Bool := htB h && decide (i < p2 h)
def has (L : List Int) (i : Int) : Bool := decide (i ∈ L)
def pos (L : List Int) (i : Int) : Nat := (L.filter (fun x => decide (x < i))).length
def fndE (h : Int) (L : List Int) (i : Int) : Int := if setB h L && isB h i then 0 else 1
def findN (h : Int) (L : List Int) (i : Int) : Int := if fndE h L i = 0 then (pos L i : Int) else 0
def hasV (h : Int) (L : List Int) (i : Int) : Bool := decide (fndE h L i = 0) && has L i
def withE (h : Int) (L : List Int) (i : Int) : Int := if fndE h L i = 0 then (if has L i then 5 else if L.length = 1024 then 6 else 0) else 1
def withL (L : List Int) (i : Int) : List Int := L.filter (fun x => decide (x < i)) ++ [i] ++ L.filter (fun x => decide (i < x))
def withV (h : Int) (L : List Int) (i : Int) : List Int := if withE h L i = 0 then withL L i else []
def outE (h : Int) (L : List Int) (i : Int) : Int := if fndE h L i = 0 then (if has L i then 0 else 4) else 1
def outLf (L : List Int) (i : Int) : List Int := L.filter (fun x => decide (x ≠ i))
def outV (h : Int) (L : List Int) (i : Int) : List Int := if outE h L i = 0 then outLf L i else []
def belE (h : Int) (L : List Int) (n : Int) : Int := if setB h L && okB h n then 0 else 1
def belL (lo hi : Int) (L : List Int) : List Int := L.filter (fun x => decide (lo ≤ x) && decide (x ≤ hi))
def belV (h : Int) (L : List Int) (n : Int) : List Int := if belE h L n = 0 then belL (low h n) (high h n) L else []
/-- the spans between -/
def gapsL : Int → Int → List Int → List (Int × Int)
  | least, last, [] => if least ≤ last then [(least, last)] else []
  | least, last, i :: t => (if least < i then [(least, i - 1)] else []) ++ gapsL (i + 1) last t
def gapsV (h : Int) (L : List Int) : List (Int × Int) := if setB h L then gapsL 0 (p2 h - 1) L else []
/-- spans that rise, apart, none above 'last' -/
def spans : Int → Int → List (Int × Int) → Bool
  | _, _, [] => true
  | least, last, s :: t => decide (least ≤ s.1) && decide (s.1 ≤ s.2) && decide (s.2 ≤ last) && spans (s.2 + 1) last t
def many : List (Int × Int) → Int
  | [] => 0
  | s :: t => (s.2 - s.1 + 1) + many t
def manyB (h : Int) (S : List (Int × Int)) : Bool := htB h && spans 0 (p2 h - 1) S
def manyE (h : Int) (S : List (Int × Int)) : Int := if manyB h S then 0 else 1
def manyV (h : Int) (S : List (Int × Int)) : Int := if manyB h S then many S else 0

theorem ht_of {h : Int} (hh : htB h = true) : 1 ≤ h ∧ h ≤ 32 := by unfold htB at hh; simpa using hh
theorem ht_mk {h : Int} (h1 : 1 ≤ h) (h2 : h ≤ 32) : htB h = true := by unfold htB; simp [h1, h2]
theorem ok_one (h : Int) : okB h 1 = htB h := by
  unfold okB htB
  have := p2_pos h
  by_cases h1 : 1 ≤ h <;> by_cases h2 : h ≤ 32 <;> simp [h1, h2] <;> omega
theorem low_one (h : Int) : low h 1 = 0 := by
  have : dep 1 = 0 := by decide +kernel
  unfold low; rw [this]; simp
theorem high_one (h : Int) : high h 1 = p2 h - 1 := by
  have : dep 1 = 0 := by decide +kernel
  unfold high; rw [low_one, this]; simp
theorem lowV_one (h : Int) : lowV h 1 = 0 := by unfold lowV; rw [low_one]; simp
theorem highV_one (h : Int) : highV h 1 = if htB h then p2 h - 1 else 0 := by unfold highV; rw [high_one, ok_one]
theorem eChk_one (h : Int) : eChk h 1 = if htB h then 0 else 1 := by unfold eChk; rw [ok_one]

theorem rise_of : ∀ {L : List Int} {least last : Int}, rise least last L = true → L.Pairwise (· < ·) ∧ ∀ x ∈ L, least ≤ x ∧ x ≤ last
  | [], _, _, _ => ⟨List.Pairwise.nil, by simp⟩
  | i :: t, least, last, h => by
    simp only [rise, Bool.and_eq_true, decide_eq_true_eq] at h
    obtain ⟨⟨h1, h2⟩, h3⟩ := h
    obtain ⟨h4, h5⟩ := rise_of h3
    refine ⟨List.pairwise_cons.2 ⟨fun x hx => by have := (h5 x hx).1; omega, h4⟩, ?_⟩
    intro x hx
    rcases List.mem_cons.1 hx with rfl | hx
    · exact ⟨h1, h2⟩
    · have := h5 x hx; omega
theorem rise_mk : ∀ {L : List Int} {least last : Int}, L.Pairwise (· < ·) → (∀ x ∈ L, least ≤ x ∧ x ≤ last) → rise least last L = true
  | [], _, _, _, _ => rfl
  | i :: t, least, last, h, hb => by
    obtain ⟨h1, h2⟩ := List.pairwise_cons.1 h
    simp only [rise, Bool.and_eq_true, decide_eq_true_eq]
    refine ⟨hb i (by simp), rise_mk h2 fun x hx => ?_⟩
    have := h1 x hx
    have := hb x (by simp [hx])
    omega
theorem set_of {h : Int} {L : List Int} (hs : setB h L = true) : 1 ≤ h ∧ h ≤ 32 ∧ L.length ≤ 1024 ∧ rise 0 (p2 h - 1) L = true ∧ L.Pairwise (· < ·) ∧ ∀ x ∈ L, 0 ≤ x ∧ x < p2 h := by
  unfold setB at hs
  simp only [Bool.and_eq_true, decide_eq_true_eq] at hs
  obtain ⟨⟨h1, h2⟩, h3⟩ := hs
  obtain ⟨h4, h5⟩ := rise_of h3
  exact ⟨(ht_of h1).1, (ht_of h1).2, h2, h3, h4, fun x hx => by have := h5 x hx; omega⟩
theorem set_mk {h : Int} {L : List Int} (h1 : 1 ≤ h) (h2 : h ≤ 32) (h3 : L.length ≤ 1024) (h4 : L.Pairwise (· < ·)) (h5 : ∀ x ∈ L, 0 ≤ x ∧ x < p2 h) : setB h L = true := by
  unfold setB
  simp only [Bool.and_eq_true, decide_eq_true_eq]
  exact ⟨⟨ht_mk h1 h2, h3⟩, rise_mk h4 fun x hx => by have := h5 x hx; omega⟩
/-- two rising lists of the same members are one -/
theorem rising_extL : ∀ {L K : List Int}, L.Pairwise (· < ·) → K.Pairwise (· < ·) → (∀ x, x ∈ L ↔ x ∈ K) → L = K
  | [], [], _, _, _ => rfl
  | [], k :: K, _, _, h => by have := (h k).2 (by simp); simp at this
  | l :: L, [], _, _, h => by have := (h l).1 (by simp); simp at this
  | l :: L, k :: K, hL, hK, h => by
    obtain ⟨l1, l2⟩ := List.pairwise_cons.1 hL
    obtain ⟨k1, k2⟩ := List.pairwise_cons.1 hK
    have e : l = k := by
      rcases List.mem_cons.1 ((h l).1 (by simp)) with h1 | h1
      · exact h1
      · rcases List.mem_cons.1 ((h k).2 (by simp)) with h2 | h2
        · exact h2.symm
        · have := k1 l h1; have := l1 k h2; omega
    subst e
    congr 1
    refine rising_extL l2 k2 fun x => ?_
    constructor
    · intro hx
      rcases List.mem_cons.1 ((h x).1 (by simp [hx])) with h1 | h1
      · have := l1 x hx; omega
      · exact h1
    · intro hx
      rcases List.mem_cons.1 ((h x).2 (by simp [hx])) with h1 | h1
      · have := k1 x hx; omega
      · exact h1
theorem withL_rising {L : List Int} {i : Int} (hL : L.Pairwise (· < ·)) : (withL L i).Pairwise (· < ·) := by
  unfold withL
  rw [List.pairwise_append, List.pairwise_append]
  refine ⟨⟨hL.filter _, by simp, ?_⟩, hL.filter _, ?_⟩
  · intro a ha b hb
    simp only [List.mem_filter, decide_eq_true_eq, List.mem_singleton] at ha hb
    omega
  · intro a ha b hb
    simp only [List.mem_append, List.mem_filter, decide_eq_true_eq, List.mem_singleton] at ha hb
    omega
theorem withL_mem {L : List Int} {i x : Int} : x ∈ withL L i ↔ x ∈ L ∨ x = i := by
  unfold withL
  simp only [List.mem_append, List.mem_filter, decide_eq_true_eq, List.mem_singleton]
  constructor
  · rintro ((h | h) | h)
    · exact .inl h.1
    · exact .inr h
    · exact .inl h.1
  · rintro (h | h)
    · by_cases h1 : x < i
      · exact .inl (.inl ⟨h, h1⟩)
      · by_cases h2 : i < x
        · exact .inr ⟨h, h2⟩
        · exact .inl (.inr (by omega))
    · exact .inl (.inr h)
/-- a list parted by a leaf -/
theorem partsL : ∀ {L : List Int} (i : Int), L.Pairwise (· < ·) → L.filter (fun x => decide (x < i)) ++ L.filter (fun x => decide (i ≤ x)) = L
  | [], _, _ => rfl
  | a :: t, i, h => by
    obtain ⟨h1, h2⟩ := List.pairwise_cons.1 h
    by_cases ha : a < i
    · rw [List.filter_cons_of_pos (by simpa using ha), List.filter_cons_of_neg (by simp; omega), List.cons_append, partsL i h2]
    · have e1 : t.filter (fun x => decide (x < i)) = [] := List.filter_eq_nil_iff.2 fun x hx => by have := h1 x hx; simp; omega
      have e2 : t.filter (fun x => decide (i ≤ x)) = t := List.filter_eq_self.2 fun x hx => by have := h1 x hx; simp; omega
      rw [List.filter_cons_of_neg (by simp; omega), List.filter_cons_of_pos (by simp; omega), e1, e2]; rfl
theorem take_pos {L : List Int} {i : Int} (h : L.Pairwise (· < ·)) : L.take (pos L i) = L.filter (fun x => decide (x < i)) := by
  have := partsL i h
  unfold pos
  conv => lhs; arg 2; rw [← this]
  exact List.take_left
theorem drop_pos {L : List Int} {i : Int} (h : L.Pairwise (· < ·)) : L.drop (pos L i) = L.filter (fun x => decide (i ≤ x)) := by
  have := partsL i h
  unfold pos
  conv => lhs; arg 2; rw [← this]
  exact List.drop_left
theorem pos_le (L : List Int) (i : Int) : pos L i ≤ L.length := List.length_filter_le _ _
theorem filter_ge_out {L : List Int} {i : Int} (hi : has L i = false) : L.filter (fun x => decide (i ≤ x)) = L.filter (fun x => decide (i < x)) := by
  unfold has at hi
  simp only [decide_eq_false_iff_not] at hi
  refine List.filter_congr fun x hx => ?_
  have : x ≠ i := fun e => hi (e ▸ hx)
  simp; omega
theorem filter_ge_in {L : List Int} {i : Int} (h : L.Pairwise (· < ·)) (hi : has L i = true) : L.filter (fun x => decide (i ≤ x)) = i :: L.filter (fun x => decide (i < x)) := by
  unfold has at hi
  simp only [decide_eq_true_eq] at hi
  refine rising_extL (h.filter _) ?_ fun x => ?_
  · refine List.pairwise_cons.2 ⟨fun x hx => by simp at hx; omega, h.filter _⟩
  · simp only [List.mem_filter, decide_eq_true_eq, List.mem_cons]
    constructor
    · rintro ⟨h1, h2⟩
      by_cases e : x = i
      · exact .inl e
      · exact .inr ⟨h1, by omega⟩
    · rintro (rfl | ⟨h1, h2⟩)
      · exact ⟨hi, Int.le_refl _⟩
      · exact ⟨h1, by omega⟩
theorem with_parts {L : List Int} {i : Int} (h : L.Pairwise (· < ·)) (hi : has L i = false) : L.take (pos L i) ++ ([i] ++ L.drop (pos L i)) = withL L i := by
  rw [take_pos h, drop_pos h, filter_ge_out hi]; unfold withL; rw [List.append_assoc]
theorem outL_parts {L : List Int} {i : Int} (h : L.Pairwise (· < ·)) : outLf L i = L.filter (fun x => decide (x < i)) ++ L.filter (fun x => decide (i < x)) := by
  refine rising_extL (h.filter _) ?_ fun x => ?_
  · rw [List.pairwise_append]
    refine ⟨h.filter _, h.filter _, fun a ha b hb => ?_⟩
    simp only [List.mem_filter, decide_eq_true_eq] at ha hb
    omega
  · unfold outLf
    simp only [List.mem_filter, decide_eq_true_eq, List.mem_append]
    constructor
    · rintro ⟨h1, h2⟩
      by_cases e : x < i
      · exact .inl ⟨h1, e⟩
      · exact .inr ⟨h1, by omega⟩
    · rintro (⟨h1, h2⟩ | ⟨h1, h2⟩) <;> exact ⟨h1, by omega⟩
theorem out_parts {L : List Int} {i : Int} (h : L.Pairwise (· < ·)) (hi : has L i = true) : pos L i + 1 ≤ L.length ∧ L.take (pos L i) ++ L.drop (pos L i + 1) = outLf L i := by
  have h1 := drop_pos (i := i) h
  rw [filter_ge_in h hi] at h1
  have h2 : L.drop (pos L i + 1) = L.filter (fun x => decide (i < x)) := by
    rw [show pos L i + 1 = 1 + pos L i by omega, Nat.add_comm 1, ← List.drop_drop, h1]; rfl
  refine ⟨?_, by rw [take_pos h, h2, outL_parts h]⟩
  have := congrArg List.length h1
  simp at this
  omega
end Go.Proofs.YthmiekinjfaflaaGreat.M
namespace Go.Proofs.YthmiekinjfaflaaGreat.M
def ends : Int → List (Int × Int) → Int
  | least, [] => least
  | _, s :: t => ends (s.2 + 1) t
theorem spans_append : ∀ (A B : List (Int × Int)) (least last : Int), spans least last (A ++ B) = (spans least last A && spans (ends least A) last B)
  | [], B, least, last => by simp [spans, ends]
  | s :: t, B, least, last => by simp [spans, ends, spans_append t B, Bool.and_assoc]
theorem spans_less : ∀ {S : List (Int × Int)} {least l2 last : Int}, spans least last S = true → l2 ≤ least → spans l2 last S = true
  | [], _, _, _, _, _ => rfl
  | s :: t, least, l2, last, h, hl => by
    simp only [spans, Bool.and_eq_true, decide_eq_true_eq] at h ⊢
    exact ⟨⟨⟨by omega, h.1.1.2⟩, h.1.2⟩, h.2⟩
theorem many_append : ∀ (A B : List (Int × Int)), many (A ++ B) = many A + many B
  | [], B => by simp [many]
  | s :: t, B => by simp only [List.cons_append, many, many_append t B]; omega
theorem ends_ge : ∀ {S : List (Int × Int)} {least last : Int}, spans least last S = true → least ≤ ends least S ∧ least + many S ≤ ends least S ∧ (S.length : Int) ≤ many S ∧ (∀ x ∈ S, least ≤ x.1 ∧ x.1 ≤ x.2 ∧ x.2 ≤ last ∧ x.2 < ends least S)
  | [], least, last, _ => ⟨Int.le_refl _, by simp [many, ends], by simp [many], by simp⟩
  | s :: t, least, last, h => by
    simp only [spans, Bool.and_eq_true, decide_eq_true_eq] at h
    obtain ⟨⟨⟨h1, h2⟩, h3⟩, h4⟩ := h
    obtain ⟨g1, g2, g3, g4⟩ := ends_ge h4
    simp only [ends, many, List.length_cons]
    refine ⟨by omega, by omega, by omega, ?_⟩
    intro x hx
    rcases List.mem_cons.1 hx with rfl | hx
    · exact ⟨h1, h2, h3, by omega⟩
    · have := g4 x hx
      omega
theorem ends_le : ∀ {S : List (Int × Int)} {least last : Int}, spans least last S = true → least ≤ last + 1 → ends least S ≤ last + 1
  | [], least, last, _, h => h
  | s :: t, least, last, h, hl => by
    simp only [spans, Bool.and_eq_true, decide_eq_true_eq] at h
    obtain ⟨⟨⟨h1, h2⟩, h3⟩, h4⟩ := h
    show ends (s.2 + 1) t ≤ last + 1
    exact ends_le h4 (by omega)
theorem manyB_of {h : Int} {S : List (Int × Int)} (hE : manyE h S = 0) : manyB h S = true := by
  unfold manyE at hE
  cases hx : manyB h S
  · rw [hx] at hE; simp at hE
  · rfl
theorem manyE_mk {h : Int} {S : List (Int × Int)} (hB : manyB h S = true) : manyE h S = 0 ∧ manyV h S = many S := by
  unfold manyE manyV; rw [hB]; exact ⟨rfl, rfl⟩
theorem manyE_no {h : Int} {S : List (Int × Int)} (hB : manyB h S = false) : manyE h S = 1 ∧ manyV h S = 0 := by
  unfold manyE manyV; rw [hB]; exact ⟨rfl, rfl⟩
/-- spans, in two parts, and with the first one told again -/
theorem many_facts {h : Int} {S : List (Int × Int)} (hE : manyE h S = 0) (c : Nat) :
    manyE h (S.take c) = 0 ∧ manyE h (S.drop c) = 0 ∧ manyV h (S.take c) + manyV h (S.drop c) = manyV h S ∧ 0 ≤ manyV h (S.take c) ∧ 0 ≤ manyV h (S.drop c) ∧ (S.length : Int) ≤ manyV h S ∧ manyV h S ≤ 4294967296 ∧ (S ≠ [] → manyE h (S ++ [S[0]?.getD (0, 0)]) = 1) ∧ (S = [] → manyV h S = 0) := by
  have hB := manyB_of hE
  have hv := (manyE_mk hB).2
  unfold manyB at hB
  simp only [Bool.and_eq_true] at hB
  obtain ⟨hh, hs⟩ := hB
  obtain ⟨h1, h2⟩ := ht_of hh
  have hp := p2_32 h2
  have hp1 := p2_pos h
  have hcat := hs
  rw [← List.take_append_drop c S, spans_append] at hcat
  simp only [Bool.and_eq_true] at hcat
  obtain ⟨t1, t2⟩ := hcat
  obtain ⟨g1, g2, g3, g4⟩ := ends_ge t1
  obtain ⟨d1, d2, d3, d4⟩ := ends_ge t2
  obtain ⟨e1, e2, e3, e4⟩ := ends_ge hs
  have e5 := ends_le hs (by omega)
  have hT : manyB h (S.take c) = true := by unfold manyB; rw [hh, t1]; rfl
  have hD : manyB h (S.drop c) = true := by unfold manyB; rw [hh, spans_less t2 g1]; rfl
  obtain ⟨a1, a2⟩ := manyE_mk hT
  obtain ⟨b1, b2⟩ := manyE_mk hD
  have hsum : many (S.take c) + many (S.drop c) = many S := by rw [← many_append, List.take_append_drop]
  refine ⟨a1, b1, by rw [a2, b2, hv]; exact hsum, by rw [a2]; omega, by rw [b2]; omega, by rw [hv]; omega, by rw [hv]; omega, ?_, ?_⟩
  · intro hne
    refine (manyE_no ?_).1
    unfold manyB
    rw [hh, spans_append, hs]
    have h0 : 0 < S.length := List.length_pos_iff.2 hne
    have hm : S[0]?.getD (0, 0) ∈ S := by
      have : S[0]?.getD (0, 0) = S[0] := by simp [h0]
      rw [this]; exact List.getElem_mem h0
    have := e4 _ hm
    simp [spans]
    omega
  · rintro rfl; rw [hv]; rfl
end Go.Proofs.YthmiekinjfaflaaGreat.M
namespace Go.Proofs.YthmiekinjfaflaaGreat.M
/-- there is such a subset: J is 0 or another node, that I is above -/
def subB (h I J : Int) : Bool := okB h I && (decide (J = 0) || (okB h J && abv I J && !decide (I = J)))
def subE (h I J : Int) : Int := if subB h I J then 0 else 1
/-- its leaves, in spans -/
def lvs (h I J : Int) : List (Int × Int) :=
  if J = 0 then [(low h I, high h I)] else (if low h I < low h J then [(low h I, low h J - 1)] else []) ++ (if high h J < high h I then [(high h J + 1, high h I)] else [])
def inS (S : List (Int × Int)) (i : Int) : Bool := S.any fun s => decide (s.1 ≤ i) && decide (i ≤ s.2)
def shE (h I J i : Int) : Int := if subB h I J && decide (leafE h i = 0) then 0 else 1
def shV (h I J i : Int) : Bool := decide (shE h I J i = 0) && inS (lvs h I J) i
/-- one of the first leaves of S is in T, or the other way round -/
def begS (S T : List (Int × Int)) : Bool := S.any fun s => inS T s.1
def metB (S T : List (Int × Int)) : Bool := begS S T || begS T S
def toE (h I J K L : Int) : Int := if subB h I J && subB h K L then 0 else 1
def toV (h I J K L : Int) : Bool := subB h I J && subB h K L && metB (lvs h I J) (lvs h K L)
def lssB (I J K L : Int) : Bool := decide (I < K) || (decide (I = K) && decide (J < L))
def stp (h : Int) : Int := if h ≤ 1 then 1 else if h ≤ 4 then 2 else if h ≤ 9 then 3 else if h ≤ 16 then 4 else if h ≤ 25 then 5 else 6
def stpE (h : Int) : Int := if htB h then 0 else 1
def stpV (h : Int) : Int := if htB h then stp h else 0
def nxt (h d : Int) : Int := (d / stp h + 1) * stp h
def cutB (h I J : Int) : Bool := !decide (dep I % stp h = 0) && decide (nxt h (dep I) < dep J)
def cutV (h I J : Int) : Int := if cutB h I J then up J (nxt h (dep I)) else 0
def useB (h I J : Int) : Bool := if J = 0 then decide (I = 1) else !cutB h I J
def useV (h I J : Int) : Bool := subB h I J && useB h I J
def spl (h I J : Int) : List (Int × Int) := if J = 0 then [(I, J)] else if cutB h I J then [(I, cutV h I J), (cutV h I J, J)] else [(I, J)]
/-- in short: what I is above, between two numbers -/
theorem sub_of {h I J : Int} (hs : subB h I J = true) : okB h I = true ∧ (J = 0 ∨ (J ≠ 0 ∧ okB h J = true ∧ abv I J = true ∧ I ≠ J)) := by
  unfold subB at hs
  simp only [Bool.and_eq_true, Bool.or_eq_true, decide_eq_true_eq, Bool.not_eq_true', decide_eq_false_iff_not] at hs
  refine ⟨hs.1, ?_⟩
  rcases hs.2 with h1 | ⟨⟨h1, h2⟩, h3⟩
  · exact .inl h1
  · exact .inr ⟨by have := (ok_of h1).2.2.1; omega, h1, h2, h3⟩
theorem sub_mk {h I J : Int} (hI : okB h I = true) (hJ : okB h J = true) (ha : abv I J = true) (hne : I ≠ J) : subB h I J = true := by
  unfold subB; rw [hI, hJ, ha, decide_eq_false hne]; simp
theorem sub_mk0 {h I : Int} (hI : okB h I = true) : subB h I 0 = true := by unfold subB; rw [hI]; simp
theorem sub_dep {I J : Int} (ha : abv I J = true) (hne : I ≠ J) : dep I < dep J := by
  have := abv_iff.1 ha
  rcases Int.lt_or_le (dep I) (dep J) with h | h
  · exact h
  · have e : dep I = dep J := by omega
    exact absurd (by rw [← this.2, e, up_self]) hne
theorem sub_in {h I J : Int} (hs : subB h I J = true) (hJ : J ≠ 0) : okB h J = true ∧ abv I J = true ∧ I ≠ J ∧ dep I < dep J ∧ dep J ≤ h ∧ low h I ≤ low h J ∧ low h J ≤ high h J ∧ high h J ≤ high h I ∧ (low h I < low h J ∨ high h J < high h I) := by
  obtain ⟨h1, h2⟩ := sub_of hs
  rcases h2 with h2 | ⟨_, h3, h4, h5⟩
  · exact absurd h2 hJ
  · have hw := (within_iff h1 h3).2 h4
    have hb := low_bd h3
    refine ⟨h3, h4, h5, sub_dep h4 h5, (ok_dep h3).2, hw.1, hb.2.1, hw.2, ?_⟩
    rcases Int.lt_or_le (low h I) (low h J) with h6 | h6
    · exact .inl h6
    · rcases Int.lt_or_le (high h J) (high h I) with h7 | h7
      · exact .inr h7
      · exact absurd (abv_antisymm h4 ((within_iff h3 h1).1 ⟨h6, h7⟩)) h5
theorem inS_iff {S : List (Int × Int)} {i : Int} : inS S i = true ↔ ∃ s ∈ S, s.1 ≤ i ∧ i ≤ s.2 := by
  unfold inS; simp [List.any_eq_true]
theorem lvs_in {h I J : Int} (hs : subB h I J = true) (i : Int) : inS (lvs h I J) i = true ↔ (low h I ≤ i ∧ i ≤ high h I) ∧ (J = 0 ∨ i < low h J ∨ high h J < i) := by
  rw [inS_iff]; unfold lvs
  by_cases hJ : J = 0
  · rw [if_pos hJ]; simp [hJ]
  · obtain ⟨_, _, _, _, _, g1, g2, g3, g4⟩ := sub_in hs hJ
    rw [if_neg hJ]
    by_cases c1 : low h I < low h J
    · by_cases c2 : high h J < high h I
      · rw [if_pos c1, if_pos c2]; simp; omega
      · rw [if_pos c1, if_neg c2]; simp; omega
    · by_cases c2 : high h J < high h I
      · rw [if_neg c1, if_pos c2]; simp; omega
      · omega
theorem lvs_facts {h I J : Int} (hs : subB h I J = true) : (∀ s ∈ lvs h I J, 0 ≤ s.1 ∧ s.1 ≤ s.2 ∧ s.2 < p2 h) ∧ 1 ≤ (lvs h I J).length ∧ (lvs h I J).length ≤ 2 ∧ manyE h (lvs h I J) = 0 ∧ manyV h (lvs h I J) = high h I - low h I + 1 - (if J = 0 then 0 else high h J - low h J + 1) ∧ 1 ≤ manyV h (lvs h I J) ∧ manyV h (lvs h I J) ≤ p2 h := by
  have h1 := (sub_of hs).1
  have b1 := low_bd h1
  have hh := ok_of h1
  have ht : htB h = true := ht_mk hh.1 hh.2.1
  have key : ∀ S : List (Int × Int), spans 0 (p2 h - 1) S = true → manyE h S = 0 ∧ manyV h S = many S := fun S hS => manyE_mk (by unfold manyB; rw [ht, hS]; rfl)
  unfold lvs
  by_cases hJ : J = 0
  · rw [if_pos hJ, if_pos hJ]
    obtain ⟨k1, k2⟩ := key [(low h I, high h I)] (by simp [spans]; omega)
    rw [k1, k2]; simp [many]; omega
  · obtain ⟨g0, _, _, _, _, g1, g2, g3, g4⟩ := sub_in hs hJ
    rw [if_neg hJ, if_neg hJ]
    by_cases c1 : low h I < low h J
    · by_cases c2 : high h J < high h I
      · rw [if_pos c1, if_pos c2]
        obtain ⟨k1, k2⟩ := key ([(low h I, low h J - 1)] ++ [(high h J + 1, high h I)]) (by simp [spans]; omega)
        rw [k1, k2]; simp [many]; omega
      · rw [if_pos c1, if_neg c2]
        obtain ⟨k1, k2⟩ := key ([(low h I, low h J - 1)] ++ []) (by simp [spans]; omega)
        rw [k1, k2]; simp [many]; omega
    · by_cases c2 : high h J < high h I
      · rw [if_neg c1, if_pos c2]
        obtain ⟨k1, k2⟩ := key ([] ++ [(high h J + 1, high h I)]) (by simp [spans]; omega)
        rw [k1, k2]; simp [many]; omega
      · omega
theorem lvs_fit {h I J : Int} (hs : subB h I J = true) : ∀ x ∈ lvs h I J, 0 ≤ x.1 ∧ x.1 ≤ 18446744073709551615 ∧ 0 ≤ x.2 ∧ x.2 ≤ 18446744073709551615 := by
  intro x hx
  have h1 := (lvs_facts hs).1 x hx
  have := p2_32 (ok_of (sub_of hs).1).2.1
  omega
theorem begS_iff {S T : List (Int × Int)} : begS S T = true ↔ ∃ s ∈ S, inS T s.1 = true := by unfold begS; simp [List.any_eq_true]
theorem metB_iff {S T : List (Int × Int)} (hS : ∀ s ∈ S, s.1 ≤ s.2) (hT : ∀ s ∈ T, s.1 ≤ s.2) : metB S T = true ↔ ∃ i, inS S i = true ∧ inS T i = true := by
  unfold metB
  rw [Bool.or_eq_true, begS_iff, begS_iff]
  constructor
  · rintro (⟨s, h1, h2⟩ | ⟨s, h1, h2⟩)
    · exact ⟨s.1, inS_iff.2 ⟨s, h1, Int.le_refl _, hS s h1⟩, h2⟩
    · exact ⟨s.1, h2, inS_iff.2 ⟨s, h1, Int.le_refl _, hT s h1⟩⟩
  · rintro ⟨i, h1, h2⟩
    obtain ⟨s, s1, s2⟩ := inS_iff.1 h1
    obtain ⟨t, t1, t2⟩ := inS_iff.1 h2
    rcases Int.le_total s.1 t.1 with h | h
    · exact .inr ⟨t, t1, inS_iff.2 ⟨s, s1, by omega⟩⟩
    · exact .inl ⟨s, s1, inS_iff.2 ⟨t, t1, by omega⟩⟩
/-- as the document asks: two spans that meet -/
theorem metB_doc {S T : List (Int × Int)} (hS : ∀ s ∈ S, s.1 ≤ s.2) (hT : ∀ s ∈ T, s.1 ≤ s.2) : (S.any fun s => T.any fun t => decide (s.1 ≤ t.2) && decide (t.1 ≤ s.2)) = metB S T := by
  rw [Bool.eq_iff_iff, metB_iff hS hT]
  simp only [List.any_eq_true, Bool.and_eq_true, decide_eq_true_eq]
  constructor
  · rintro ⟨s, s1, t, t1, h1, h2⟩
    have := hS s s1
    have := hT t t1
    rcases Int.le_total s.1 t.1 with h | h
    · exact ⟨t.1, inS_iff.2 ⟨s, s1, h, h2⟩, inS_iff.2 ⟨t, t1, by omega, by omega⟩⟩
    · exact ⟨s.1, inS_iff.2 ⟨s, s1, by omega, by omega⟩, inS_iff.2 ⟨t, t1, h, h1⟩⟩
  · rintro ⟨i, h1, h2⟩
    obtain ⟨s, s1, s2⟩ := inS_iff.1 h1
    obtain ⟨t, t1, t2⟩ := inS_iff.1 h2
    exact ⟨s, s1, t, t1, by omega, by omega⟩
theorem metB_comm {S T : List (Int × Int)} : metB S T = metB T S := by unfold metB; exact Bool.or_comm _ _
theorem met_low {S T : List (Int × Int)} (hS : ∀ s ∈ S, s.1 ≤ s.2) (hT : ∀ s ∈ T, s.1 ≤ s.2) : ((S ++ T).any fun s => inS S s.1 && inS T s.1) = metB S T := by
  rw [Bool.eq_iff_iff, metB_iff hS hT]
  simp only [List.any_eq_true, Bool.and_eq_true]
  constructor
  · rintro ⟨s, _, h1, h2⟩; exact ⟨s.1, h1, h2⟩
  · intro hx
    have := (metB_iff hS hT).2 hx
    unfold metB at this
    rw [Bool.or_eq_true, begS_iff, begS_iff] at this
    rcases this with ⟨s, h1, h2⟩ | ⟨s, h1, h2⟩
    · exact ⟨s, List.mem_append.2 (.inl h1), inS_iff.2 ⟨s, h1, Int.le_refl _, hS s h1⟩, h2⟩
    · exact ⟨s, List.mem_append.2 (.inr h1), h2, inS_iff.2 ⟨s, h1, Int.le_refl _, hT s h1⟩⟩
theorem leafE_out {h i : Int} (hh : 1 ≤ h ∧ h ≤ 32) (hE : leafE h i ≠ 0) : leafE h i = 4 ∧ p2 h ≤ i := by
  by_cases hc : i < p2 h
  · exact absurd (leafE_yes hh.1 hh.2 hc) hE
  · exact ⟨leafE_no hh.1 hh.2 hc, by omega⟩
/-- as the document asks: I is above the leaf, and J is not -/
theorem inS_doc {h I J i : Int} (hs : subB h I J = true) (h0 : 0 ≤ i) (hE : leafE h i = 0) : inS (lvs h I J) i = (abv I (p2 h + i) && (decide (J = 0) || !abv J (p2 h + i))) := by
  obtain ⟨l1, l2, l3, l4, l5⟩ := leaf_facts h0 hE
  have hI := (sub_of hs).1
  rw [Bool.eq_iff_iff, lvs_in hs]
  simp only [Bool.and_eq_true, Bool.or_eq_true, decide_eq_true_eq, Bool.not_eq_true']
  rw [← within_iff hI l2, l4, l5]
  by_cases hJ : J = 0
  · simp [hJ]
  · have g0 := (sub_in hs hJ).1
    have hw := within_iff g0 l2
    rw [l4, l5] at hw
    have hw' : abv J (p2 h + i) = false ↔ ¬ (low h J ≤ i ∧ i ≤ high h J) := by rw [hw]; simp
    rw [hw']
    simp only [hJ, false_or]
    omega
/-- nothing behind the last leaf -/
theorem inS_out {h I J i : Int} (hs : subB h I J = true) (hi : p2 h ≤ i) : inS (lvs h I J) i = false := by
  rw [Bool.eq_false_iff]
  intro hx
  obtain ⟨s, s1, s2⟩ := inS_iff.1 hx
  have := (lvs_facts hs).1 s s1
  omega
theorem stp_facts {h : Int} (h1 : 1 ≤ h) (h2 : h ≤ 32) : 1 ≤ stp h ∧ stp h ≤ 6 ∧ h ≤ stp h * stp h ∧ stp h ≤ h ∧ ∀ k : Int, 1 ≤ k → k < stp h → k * k < h := by
  unfold stp
  have key : ∀ n : Int, 1 ≤ n → n ≤ 6 → ((∀ k : Int, 1 ≤ k → k < n → k * k < h) ↔ (n = 1 ∨ (n - 1) * (n - 1) < h)) := by
    intro n n1 n6
    constructor
    · intro hx
      by_cases hn : n = 1
      · exact .inl hn
      · exact .inr (hx (n - 1) (by omega) (by omega))
    · rintro (rfl | hx) k k1 k2
      · omega
      · have : k * k ≤ (n - 1) * (n - 1) := Int.mul_le_mul (by omega) (by omega) (by omega) (by omega)
        omega
  split
  · refine ⟨by omega, by omega, by omega, by omega, (key 1 (by omega) (by omega)).2 (by omega)⟩
  split
  · refine ⟨by omega, by omega, by omega, by omega, (key 2 (by omega) (by omega)).2 (by omega)⟩
  split
  · refine ⟨by omega, by omega, by omega, by omega, (key 3 (by omega) (by omega)).2 (by omega)⟩
  split
  · refine ⟨by omega, by omega, by omega, by omega, (key 4 (by omega) (by omega)).2 (by omega)⟩
  split
  · refine ⟨by omega, by omega, by omega, by omega, (key 5 (by omega) (by omega)).2 (by omega)⟩
  · refine ⟨by omega, by omega, by omega, by omega, (key 6 (by omega) (by omega)).2 (by omega)⟩
theorem nxt_facts {h d : Int} (h1 : 1 ≤ h) (h2 : h ≤ 32) (hd : 0 ≤ d) (hd2 : d ≤ 32) : d < nxt h d ∧ nxt h d ≤ 38 ∧ nxt h d % stp h = 0 ∧ ∀ e, d < e → e < nxt h d → e % stp h ≠ 0 := by
  obtain ⟨s1, s2, _, _, _⟩ := stp_facts h1 h2
  unfold nxt
  generalize stp h = s at *
  have hm := Int.mul_ediv_add_emod d s
  have hl := Int.emod_lt_of_pos d (show 0 < s by omega)
  have hz := Int.emod_nonneg d (show s ≠ 0 by omega)
  have hq : (d / s + 1) * s = s * (d / s) + s := by rw [Int.add_mul, Int.one_mul, Int.mul_comm]
  rw [hq]
  generalize s * (d / s) = q at *
  refine ⟨by omega, by omega, ?_, fun e e1 e2 he => ?_⟩
  · have : q + s = (d / s + 1) * s := hq.symm
    rw [this]; exact Int.mul_emod_left _ _
  · have hq1 : q = d / s * s := by have := hq; rw [Int.add_mul, Int.one_mul] at this; omega
    have : (e - d / s * s) % s = 0 := by rw [Int.sub_mul_emod_self_right]; exact he
    rw [← hq1, Int.emod_eq_of_lt (by omega) (by omega)] at this
    omega
theorem cut_of {h I J : Int} (hs : subB h I J = true) (hJ : J ≠ 0) (hc : cutB h I J = true) : dep I < nxt h (dep I) ∧ nxt h (dep I) < dep J ∧ cutV h I J = up J (nxt h (dep I)) ∧ okB h (cutV h I J) = true ∧ dep (cutV h I J) = nxt h (dep I) ∧ subB h I (cutV h I J) = true ∧ subB h (cutV h I J) J = true ∧ cutV h I J ≠ 0 := by
  have hI := (sub_of hs).1
  have hh := ok_of hI
  obtain ⟨g0, g1, g2, g3, g4, _⟩ := sub_in hs hJ
  have hv : cutV h I J = up J (nxt h (dep I)) := by unfold cutV; rw [if_pos hc]
  unfold cutB at hc
  simp only [Bool.and_eq_true, Bool.not_eq_true', decide_eq_false_iff_not, decide_eq_true_eq] at hc
  have d0 := dep_nonneg I
  obtain ⟨n1, n2, n3, n4⟩ := nxt_facts (d := dep I) hh.1 hh.2.1 d0 (by omega)
  have hj1 := (ok_of g0).2.2.1
  have hok : okB h (up J (nxt h (dep I))) = true := ok_up g0 (by omega) (by omega)
  have hdp : dep (up J (nxt h (dep I))) = nxt h (dep I) := up_dep hj1 (by omega) (by omega)
  rw [hv]
  refine ⟨n1, hc.2, rfl, hok, hdp, sub_mk hI hok ?_ ?_, sub_mk hok g0 (abv_up hj1 (by omega) (by omega)) ?_, ?_⟩
  · rw [abv_iff, hdp, up_up hj1 d0 (by omega) (by omega)]
    exact ⟨by omega, (abv_iff.1 g1).2⟩
  · intro e; rw [← e] at hdp; omega
  · intro e; rw [e] at hdp; omega
  · have := (ok_of hok).2.2.1; omega
/-- what is cut is useful -/
theorem cut_use {h I J : Int} (hs : subB h I J = true) (hJ : J ≠ 0) (hc : cutB h I J = true) : useB h I (cutV h I J) = true ∧ useB h (cutV h I J) J = true := by
  obtain ⟨c1, c2, c3, c4, c5, c6, c7, c8⟩ := cut_of hs hJ hc
  have hh := ok_of c4
  have d0 := dep_nonneg I
  have hI := ok_dep (sub_of hs).1
  obtain ⟨n1, n2, n3, n4⟩ := nxt_facts (d := dep I) hh.1 hh.2.1 d0 (by omega)
  unfold useB cutB
  rw [if_neg c8, if_neg hJ, c5, n3]
  simp
theorem use_zero {h I : Int} : useB h I 0 = decide (I = 1) := by unfold useB; rw [if_pos rfl]
/-- the two parts touch nowhere, and have together what the subset has -/
theorem cut_parts {h I J : Int} (hs : subB h I J = true) (hJ : J ≠ 0) (hc : cutB h I J = true) : metB (lvs h I (cutV h I J)) (lvs h (cutV h I J) J) = false ∧ (∀ i, inS (lvs h I J) i = (inS (lvs h I (cutV h I J)) i || inS (lvs h (cutV h I J) J) i)) ∧ manyV h (lvs h I J) = manyV h (lvs h I (cutV h I J)) + manyV h (lvs h (cutV h I J) J) := by
  obtain ⟨c1, c2, c3, c4, c5, c6, c7, c8⟩ := cut_of hs hJ hc
  obtain ⟨_, _, _, _, _, a1, a2, a3, _⟩ := sub_in hs hJ
  obtain ⟨_, _, _, _, _, b1, b2, b3, _⟩ := sub_in c6 c8
  obtain ⟨_, _, _, _, _, e1, e2, e3, _⟩ := sub_in c7 hJ
  have k1 := lvs_in hs
  have k2 := lvs_in c6
  have k3 := lvs_in c7
  obtain ⟨x1, _, _, _, x2, _⟩ := lvs_facts hs
  obtain ⟨y1, _, _, _, y2, _⟩ := lvs_facts c6
  obtain ⟨z1, _, _, _, z2, _⟩ := lvs_facts c7
  refine ⟨?_, fun i => ?_, ?_⟩
  · rw [Bool.eq_false_iff]
    intro hm
    obtain ⟨i, i1, i2⟩ := (metB_iff (fun s hs => (y1 s hs).2.1) (fun s hs => (z1 s hs).2.1)).1 hm
    rw [k2] at i1
    rw [k3] at i2
    have := i1.2
    omega
  · rw [Bool.eq_iff_iff, Bool.or_eq_true, k1, k2, k3]
    simp only [hJ, c8, false_or]
    omega
  · rw [x2, y2, z2, if_neg hJ, if_neg c8]; omega
/-- a J is never touched -/
theorem whole_facts {h I J : Int} (hs : subB h I J = true) (hJ : J ≠ 0) : subB h J 0 = true ∧ subB h I 0 = true ∧ metB (lvs h I J) (lvs h J 0) = false ∧ manyV h (lvs h I J) < manyV h (lvs h I 0) ∧ manyV h (lvs h I J) + manyV h (lvs h J 0) = manyV h (lvs h I 0) := by
  obtain ⟨a0, _, _, _, _, a1, a2, a3, a4⟩ := sub_in hs hJ
  have h1 := sub_mk0 a0
  have h2 := sub_mk0 (sub_of hs).1
  have k1 := lvs_in hs
  have k2 := lvs_in h1
  obtain ⟨x1, _, _, _, x2, _⟩ := lvs_facts hs
  obtain ⟨y1, _, _, _, y2, _⟩ := lvs_facts h1
  obtain ⟨z1, _, _, _, z2, _⟩ := lvs_facts h2
  refine ⟨h1, h2, ?_, ?_, ?_⟩
  · rw [Bool.eq_false_iff]
    intro hm
    obtain ⟨i, i1, i2⟩ := (metB_iff (fun s hs => (x1 s hs).2.1) (fun s hs => (y1 s hs).2.1)).1 hm
    rw [k1] at i1
    rw [k2] at i2
    have := i1.2
    omega
  · rw [x2, z2, if_neg hJ, if_pos rfl]; omega
  · rw [x2, y2, z2, if_neg hJ, if_pos rfl]; omega
theorem own_met {h I J : Int} (hs : subB h I J = true) : metB (lvs h I J) (lvs h I J) = true := by
  obtain ⟨x1, x2, _⟩ := lvs_facts hs
  obtain ⟨s, t, e⟩ : ∃ s t, lvs h I J = s :: t := by
    cases hl : lvs h I J with
    | nil => rw [hl] at x2; simp at x2
    | cons s t => exact ⟨s, t, rfl⟩
  have hm : s ∈ lvs h I J := by rw [e]; simp
  rw [metB_iff (fun s hs => (x1 s hs).2.1) (fun s hs => (x1 s hs).2.1)]
  have := inS_iff.2 ⟨s, hm, Int.le_refl _, (x1 s hm).2.1⟩
  exact ⟨s.1, this, this⟩
end Go.Proofs.YthmiekinjfaflaaGreat.M
