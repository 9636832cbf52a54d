/-
  Plain mathematics of package store's way by terms: what is made of an atom alone, put behind terms as parts of the term at a place, is what is made there one by one. No condition.
-/
import Derived.Test.YthmiekinjfaflaaGreatZLD0
import Derived.Test.YthmiekinjfaflaaGreatZSt13
namespace Go.Proofs.YthmiekinjfaflaaGreat
namespace M
theorem may_part {n : Nat} {i : Nat} {s : Int} (hi : i < n) (h0 : 0 ≤ s) (h2 : s ≤ 2) : mayB (2 + s, (i : Int), 0) n = true := by
  unfold mayB
  rw [if_neg (by dsimp only; omega), if_pos (by dsimp only; omega)]
  rw [Bool.and_eq_true, ahd_iff]
  exact ⟨by dsimp only; omega, decide_eq_true rfl⟩
theorem part_as {A : List Tm} {i : Nat} {s : Int} (ho : opn A (ofT i) = true) (h0 : 0 ≤ s) (h2 : s ≤ 2) : partA A (ofT i) s = mkT A (2 + s, (i : Int), 0) ∧ i < A.length ∧ Ok A ∧ (plc (2 + s, (i : Int), 0) A = none → findE A (2 + s, (i : Int), 0) = 4) := by
  obtain ⟨hA, hm, hl⟩ := opn_iff.1 ho
  have hi : i < A.length := by
    obtain ⟨j, e1, e2⟩ := opn_place ho rfl
    have : (i : Int) = j := congrArg (fun v : Val => v.2.2.2.2) e1
    omega
  refine ⟨?_, hi, hA, fun hp => ?_⟩
  · unfold partA
    rw [if_pos ⟨hm, hl, h0, h2⟩, if_pos (show (ofT (i : Int)).1 = true from rfl)]
    rfl
  · unfold findE
    rw [if_pos ⟨hA, may_part hi h0 h2⟩, if_pos hp]
theorem part_new {A : List Tm} {i : Nat} {s : Int} (ho : opn A (ofT i) = true) (h0 : 0 ≤ s) (h2 : s ≤ 2) (hp : plc (2 + s, (i : Int), 0) A = none) (hl : ¬ A.length = 65536) : partA A (ofT i) s = (ofT (A.length : Nat), A ++ [(2 + s, (i : Int), 0)], 0) ∧ opn (A ++ [(2 + s, (i : Int), 0)]) (ofT (A.length : Nat)) = true := by
  obtain ⟨e1, hi, hA, hf⟩ := part_as ho h0 h2
  have hf := hf hp
  have hmk : makeE A (2 + s, (i : Int), 0) = 0 := by unfold makeE; rw [if_pos hf, if_neg hl]
  have hx : partA A (ofT i) s = (ofT (A.length : Nat), A ++ [(2 + s, (i : Int), 0)], 0) := by
    rw [e1]
    unfold mkT makeV makeL
    rw [if_pos hmk, if_neg (by rw [hf]; decide), if_pos hmk, if_neg (by rw [hf]; decide), if_pos hmk]
  exact ⟨hx, (part_step ho h0 h2 hx).1⟩
theorem part_full {A : List Tm} {i : Nat} {s : Int} (ho : opn A (ofT i) = true) (h0 : 0 ≤ s) (h2 : s ≤ 2) (hp : plc (2 + s, (i : Int), 0) A = none) (hl : A.length = 65536) : partA A (ofT i) s = (zV, [], 6) := by
  obtain ⟨e1, hi, hA, hf⟩ := part_as ho h0 h2
  have hf := hf hp
  have hmk : makeE A (2 + s, (i : Int), 0) = 6 := by unfold makeE; rw [if_pos hf, if_pos hl]
  rw [e1]
  unfold mkT
  rw [if_neg (by rw [hmk]; decide), hmk]
/-! ### behind terms -/
def shf (ps : List Int) (t : Tm) : Tm := (t.1, ps[t.2.1.toNat]?.getD 0, t.2.2)
abbrev AnsP : Type := List Tm × List Int × Int
/-- A: what was handed in; L: what was made so far; ps: where each is -/
def putR (A : List Tm) : List Tm → List Tm → List Int → AnsP
  | [], L, ps => (L, ps, 0)
  | t :: F, L, ps => if plc (shf ps t) A = none then (if L.length = 65536 then ([], [], 6) else putR A F (L ++ [shf ps t]) (ps ++ [(L.length : Int)])) else putR A F L (ps ++ [plcI A (shf ps t)])
theorem putR_err {A : List Tm} : ∀ {F L : List Tm} {ps : List Int}, ¬ (putR A F L ps).2.2 = 0 → putR A F L ps = ([], [], 6)
  | [], L, ps, h => absurd rfl h
  | t :: F, L, ps, h => by
    rw [putR] at h ⊢
    split
    · rename_i h1
      rw [if_pos h1] at h
      split
      · rfl
      · rename_i h2
        rw [if_neg h2] at h
        exact putR_err h
    · rename_i h1
      rw [if_neg h1] at h
      exact putR_err h
theorem putR_append {A : List Tm} : ∀ {F G L : List Tm} {ps : List Int}, putR A (F ++ G) L ps = if (putR A F L ps).2.2 = 0 then putR A G (putR A F L ps).1 (putR A F L ps).2.1 else ([], [], 6)
  | [], G, L, ps => by rw [putR, if_pos rfl]; rfl
  | t :: F, G, L, ps => by
    rw [List.cons_append, putR, putR]
    by_cases h1 : plc (shf ps t) A = none
    · rw [if_pos h1, if_pos h1]
      by_cases h2 : L.length = 65536
      · rw [if_pos h2, if_pos h2, if_neg (by decide)]
      · rw [if_neg h2, if_neg h2]
        exact putR_append
    · rw [if_neg h1, if_neg h1]
      exact putR_append
theorem putR_ext {A F F' L : List Tm} {ps : List Int} (hx : Ext F F') (hF : F ≠ []) (h : putR A F.tail L ps = ([], [], 6)) : putR A F'.tail L ps = ([], [], 6) := by
  have e : F' = F ++ F'.drop F.length := by
    conv => lhs; rw [← List.take_append_drop F.length F', hx.2]
  obtain ⟨x, F0, rfl⟩ : ∃ x F0, F = x :: F0 := by
    cases F with
    | nil => exact absurd rfl hF
    | cons x F0 => exact ⟨x, F0, rfl⟩
  rw [e, List.cons_append, List.tail_cons, putR_append, show putR A F0 L ps = ([], [], 6) from h, if_neg (by decide)]
theorem putR_pre {A : List Tm} : ∀ {F L L' : List Tm} {ps ps' : List Int}, putR A F L ps = (L', ps', 0) → ps <+: ps'
  | [], L, L', ps, ps', h => by
    rw [putR] at h
    simp only [Prod.mk.injEq] at h
    rw [h.2.1]
    exact List.prefix_refl _
  | t :: F, L, L', ps, ps', h => by
    rw [putR] at h
    split at h
    · split at h
      · simp at h
      · exact (List.prefix_append _ _).trans (putR_pre h)
    · exact (List.prefix_append _ _).trans (putR_pre h)
theorem putR_first {A F L L' : List Tm} {p : Int} {ps : List Int} (h : putR A F L [p] = (L', ps, 0)) : ps[0]? = some p := by
  obtain ⟨r, rfl⟩ := putR_pre h
  rfl
structure Coh (A : List Tm) (p : Nat) (F L : List Tm) (ps : List Int) : Prop where
  nz : F ≠ []
  put : putR A F.tail A [(p : Int)] = (L, ps, 0)
  okF : Ok F
  okL : Ok L
  ext : Ext A L
  len : ps.length = F.length
  kd : ∀ j, 1 ≤ j → j < F.length → ∃ (c : Int) (a : Nat), at_ F j = (c, (a : Int), 0) ∧ a < j
  has : ∀ j, j < F.length → ∃ q : Nat, ps[j]? = some (q : Int) ∧ q < L.length ∧ (1 ≤ j → at_ L q = shf ps (at_ F j))
  new : ∀ q : Nat, A.length ≤ q → q < L.length → ∃ j, 1 ≤ j ∧ j < F.length ∧ ps[j]? = some (q : Int)
  inj : ∀ i j, i < F.length → j < F.length → ps[i]? = ps[j]? → i = j
  ge : ∀ (j : Nat) (q : Nat), ps[j]? = some (q : Int) → p ≤ q
theorem Coh.tail {A F L : List Tm} {p : Nat} {ps : List Int} (C : Coh A p F L ps) (t : Tm) : (F ++ [t]).tail = F.tail ++ [t] := by
  have := C.nz
  cases F with
  | nil => exact absurd rfl this
  | cons x F0 => rfl
theorem shf_more {ps : List Int} {x : Int} {t : Tm} {a : Nat} {c : Int} (ht : t = (c, (a : Int), 0)) (ha : a < ps.length) : shf (ps ++ [x]) t = shf ps t := by
  subst ht
  unfold shf
  dsimp only
  rw [Int.toNat_natCast, List.getElem?_append_left ha]
theorem shf_at {ps : List Int} {c : Int} {a q : Nat} (h : ps[a]? = some (q : Int)) : shf ps (c, (a : Int), 0) = (c, (q : Int), 0) := by
  unfold shf
  dsimp only
  rw [Int.toNat_natCast, h]
  rfl
/-- that a shifted term is there tells that it was there -/
theorem Coh.back {A F L : List Tm} {p : Nat} {ps : List Int} (C : Coh A p F L ps) {c : Int} {i q k : Nat} (hi : i < F.length) (hq : ps[i]? = some (q : Int)) (h : at_ L k = (c, (q : Int), 0)) {j : Nat} (hj1 : 1 ≤ j) (hj : j < F.length) (hk : ps[j]? = some (k : Int)) : at_ F j = (c, (i : Int), 0) := by
  obtain ⟨q', a1, a2, a3⟩ := C.has j hj
  obtain rfl : q' = k := by rw [hk] at a1; have := Option.some.inj a1; omega
  obtain ⟨c', a, b1, b2⟩ := C.kd j hj1 hj
  obtain ⟨qa, d1, d2, -⟩ := C.has a (by omega)
  rw [h, b1, shf_at d1] at a3
  have a3 := a3 hj1
  simp only [Prod.mk.injEq] at a3
  obtain ⟨e1, e2, -⟩ := a3
  rw [← e2, ← hq] at d1
  have := C.inj a i (by omega) hi d1
  rw [b1, e1, this]
theorem Coh.grow {A F L L' : List Tm} {p : Nat} {ps : List Int} (C : Coh A p F L ps) {s : Int} {i q k : Nat} (h0 : 0 ≤ s) (h2 : s ≤ 2) (hi : i < F.length) (hq : ps[i]? = some (q : Int)) (hn : plc (2 + s, (i : Int), 0) F = none) (hl : ¬ F.length = 65536) (hx : Ext L L') (oL : Ok L') (hk : k < L'.length) (hat : at_ L' k = (2 + s, (q : Int), 0)) (hnew : ∀ q : Nat, L.length ≤ q → q < L'.length → q = k) (hin : ∀ j, j < F.length → ps[j]? ≠ some (k : Int))
    (hput : putR A [(2 + s, (i : Int), 0)] L ps = (L', ps ++ [(k : Int)], 0)) (hpk : p ≤ k) : Coh A p (F ++ [(2 + s, (i : Int), 0)]) L' (ps ++ [(k : Int)]) := by
  have hps := C.len
  have hlast : (ps ++ [(k : Int)])[F.length]? = some (k : Int) := by rw [← hps]; simp
  refine ⟨by simp, ?_, C.okF.more (may_part hi h0 h2) hn hl, oL, C.ext.trans hx, by simp [hps], fun j h1 hj => ?_, fun j hj => ?_, fun r h1 hr => ?_, fun a b ha hb e => ?_, fun j r hr => ?_⟩
  · rw [C.tail, putR_append, C.put, if_pos rfl]; exact hput
  · by_cases e : j < F.length
    · obtain ⟨c, a, b1, b2⟩ := C.kd j h1 e
      exact ⟨c, a, by rw [at_append e, b1], b2⟩
    · simp at hj
      obtain rfl : j = F.length := by omega
      exact ⟨2 + s, i, at_last, hi⟩
  · by_cases e : j < F.length
    · obtain ⟨r, a1, a2, a3⟩ := C.has j e
      refine ⟨r, by rw [List.getElem?_append_left (by omega), a1], Nat.lt_of_lt_of_le a2 hx.1, fun h1 => ?_⟩
      obtain ⟨c, a, b1, b2⟩ := C.kd j h1 e
      rw [hx.at a2, a3 h1, at_append e, shf_more b1 (by omega)]
    · simp at hj
      obtain rfl : j = F.length := by omega
      refine ⟨k, hlast, hk, fun _ => ?_⟩
      rw [hat, at_last, shf_more rfl (by omega), shf_at hq]
  · by_cases e : r < L.length
    · obtain ⟨j, b1, b2, b3⟩ := C.new r h1 e
      exact ⟨j, b1, by simp; omega, by rw [List.getElem?_append_left (by omega), b3]⟩
    · obtain rfl := hnew r (by omega) hr
      have := C.nz
      exact ⟨F.length, by have := List.length_pos_iff.2 this; omega, by simp, hlast⟩
  · simp at ha hb
    by_cases e1 : a < F.length <;> by_cases e2 : b < F.length
    · rw [List.getElem?_append_left (by omega), List.getElem?_append_left (by omega)] at e
      exact C.inj a b e1 e2 e
    · obtain rfl : b = F.length := by omega
      rw [List.getElem?_append_left (by omega), hlast] at e
      exact absurd e (hin a e1)
    · obtain rfl : a = F.length := by omega
      rw [hlast, List.getElem?_append_left (by omega)] at e
      exact absurd e.symm (hin b e2)
    · omega
  · by_cases e : j < F.length
    · rw [List.getElem?_append_left (by omega)] at hr
      exact C.ge j r hr
    · have : j < (ps ++ [(k : Int)]).length := (List.getElem?_eq_some_iff.1 hr).1
      simp [hps] at this
      obtain rfl : j = F.length := by omega
      rw [hlast] at hr
      have := Option.some.inj hr
      omega
theorem coh_step {A F L : List Tm} {p : Nat} {ps : List Int} (C : Coh A p F L ps) {i q : Nat} {s : Int} (hq : ps[i]? = some (q : Int)) (oF : opn F (ofT i) = true) (oL : opn L (ofT q) = true) (h0 : 0 ≤ s) (h2 : s ≤ 2) (hl : F.length ≤ 60000) :
    ∃ (F' : List Tm) (j : Nat), partA F (ofT i) s = (ofT j, F', 0) ∧ opn F' (ofT j) = true ∧ Ext F F' ∧ F'.length ≤ F.length + 1 ∧
      ((∃ (L' : List Tm) (ps' : List Int) (q' : Nat), Coh A p F' L' ps' ∧ ps <+: ps' ∧ ps'[j]? = some (q' : Int) ∧ partA L (ofT q) s = (ofT q', L', 0) ∧ opn L' (ofT q') = true ∧ Ext L L') ∨ (putR A F'.tail A [(p : Int)] = ([], [], 6) ∧ partA L (ofT q) s = (zV, [], 6))) := by
  obtain ⟨-, hi, hF, -⟩ := part_as oF h0 h2
  obtain ⟨-, hqL, hL, -⟩ := part_as oL h0 h2
  cases hp : plc (2 + s, (i : Int), 0) F with
  | some j =>
    obtain ⟨b1, b2, -⟩ := plc_lt hp
    obtain ⟨x1, x2⟩ := part_found oF h0 h2 b1 b2
    have hj1 : 1 ≤ j := by
      have hm := (hF.2 j b1).1
      rw [b2] at hm
      unfold mayB at hm
      rw [if_neg (by dsimp only; omega), if_pos (by dsimp only; omega), Bool.and_eq_true, ahd_iff] at hm
      have := hm.1
      dsimp only at this
      omega
    obtain ⟨q', a1, a2, a3⟩ := C.has j b1
    have a3 := a3 hj1
    rw [b2, shf_at hq] at a3
    obtain ⟨y1, y2⟩ := part_found oL h0 h2 a2 a3
    exact ⟨F, j, x1, x2, Ext.self _, by omega, .inl ⟨L, ps, q', C, List.prefix_refl _, a1, y1, y2, Ext.self _⟩⟩
  | none =>
    obtain ⟨x1, x2⟩ := part_new oF h0 h2 hp (by omega)
    have hxF : Ext F (F ++ [(2 + s, (i : Int), 0)]) := ⟨by simp, by simp⟩
    refine ⟨_, F.length, x1, x2, hxF, by simp, ?_⟩
    have hplast : ∀ k : Nat, (ps ++ [(k : Int)])[F.length]? = some (k : Int) := fun k => by rw [← C.len]; simp
    cases hA : plc (2 + s, (q : Int), 0) A with
    | some k =>
      obtain ⟨b1, b2, -⟩ := plc_lt hA
      have c1 : k < L.length := Nat.lt_of_lt_of_le b1 C.ext.1
      have c2 : at_ L k = (2 + s, (q : Int), 0) := by rw [C.ext.at b1, b2]
      obtain ⟨y1, y2⟩ := part_found oL h0 h2 c1 c2
      have hqk : q < k := by
        have hm := (hL.2 k c1).1
        rw [c2] at hm
        unfold mayB at hm
        rw [if_neg (by dsimp only; omega), if_pos (by dsimp only; omega), Bool.and_eq_true, ahd_iff] at hm
        have := hm.1
        dsimp only at this
        omega
      have hpq := C.ge i q hq
      refine .inl ⟨L, ps ++ [(k : Int)], k, C.grow h0 h2 hi hq hp (by omega) (Ext.self _) hL c1 c2 (fun r h1 h2 => by omega) (fun j hj e => ?_) ?_ (by omega), List.prefix_append _ _, hplast k, y1, y2, Ext.self _⟩
      · by_cases hj1 : 1 ≤ j
        · have := C.back hi hq c2 hj1 hj e
          have h3 := plc_none.1 hp
          rw [← this] at h3
          exact h3 (at_mem hj)
        · obtain rfl : j = 0 := by omega
          obtain ⟨r, a1, -, -⟩ := C.has 0 hj
          have hp0 : ps[0]? = some (p : Int) := by
            have hput := C.put
            exact putR_first hput
          rw [hp0] at e
          have := Option.some.inj e
          omega
      · rw [putR, shf_at hq, if_neg (by rw [hA]; simp), plcI_some hA]
        rfl
    | none =>
      have hLn : plc (2 + s, (q : Int), 0) L = none := by
        cases hc : plc (2 + s, (q : Int), 0) L with
        | none => rfl
        | some k =>
          exfalso
          obtain ⟨b1, b2, -⟩ := plc_lt hc
          by_cases e : k < A.length
          · rw [C.ext.at e] at b2
            have := plc_none.1 hA
            rw [← b2] at this
            exact this (at_mem e)
          · obtain ⟨j, d1, d2, d3⟩ := C.new k (by omega) b1
            have := C.back hi hq b2 d1 d2 d3
            have h3 := plc_none.1 hp
            rw [← this] at h3
            exact h3 (at_mem d2)
      by_cases hfull : L.length = 65536
      · refine .inr ⟨?_, part_full oL h0 h2 hLn hfull⟩
        rw [C.tail, putR_append, C.put, if_pos rfl]
        show putR A _ L ps = _
        rw [putR, shf_at hq, if_pos hA, if_pos hfull]
      · obtain ⟨y1, y2⟩ := part_new oL h0 h2 hLn hfull
        have hxL : Ext L (L ++ [(2 + s, (q : Int), 0)]) := ⟨by simp, by simp⟩
        have hpq := C.ge i q hq
        refine .inl ⟨_, ps ++ [(L.length : Int)], L.length, C.grow h0 h2 hi hq hp (by omega) hxL (opn_iff.1 y2).1 (by simp) at_last (fun r h1 h2 => by simp at h2; omega) (fun j hj e => ?_) ?_ (by omega), List.prefix_append _ _, hplast _, y1, y2, hxL⟩
        · obtain ⟨r, a1, a2, -⟩ := C.has j hj
          rw [e] at a1
          have := Option.some.inj a1
          omega
        · rw [putR, shf_at hq, if_pos hA, if_neg hfull]
          rfl
end M
end Go.Proofs.YthmiekinjfaflaaGreat
namespace Go.Proofs.YthmiekinjfaflaaGreat
namespace M
theorem Coh.pos {A F L : List Tm} {p : Nat} {ps : List Int} (C : Coh A p F L ps) : 1 ≤ F.length := List.length_pos_iff.2 C.nz
theorem Ext.nz {F F' : List Tm} (h : Ext F F') (hF : F ≠ []) : F' ≠ [] := fun e => by
  have := h.1
  rw [e] at this
  exact hF (List.eq_nil_of_length_eq_zero (by simpa using this))
theorem wkR_place {S : List Int} {F : List Tm} {i : Nat} (ho : opn F (ofT i) = true) (oS : Opn3 S) (hl : F.length + S.length ≤ 60000) : ∃ (F' : List Tm) (j : Nat), wkR S F (ofT i) = (ofT j, F', 0) ∧ opn F' (ofT j) = true ∧ Ext F F' ∧ F'.length ≤ F.length + S.length := by
  obtain ⟨⟨z, F', e⟩, hx⟩ : ∃ r, wkR S F (ofT i) = r := ⟨_, rfl⟩
  have he := wkR_small S ho oS hl
  rw [hx] at he
  have he : e = 0 := he
  subst he
  obtain ⟨a1, a2, a3, a4, -, -⟩ := wkR_facts S ho oS hx
  obtain ⟨j, rfl, -⟩ := opn_place a1 a4
  exact ⟨F', j, hx, a1, a2, a3⟩
theorem coh_walk {A : List Tm} {p : Nat} : ∀ (S : List Int) {F L : List Tm} {ps : List Int}, Coh A p F L ps → ∀ {i q : Nat}, ps[i]? = some (q : Int) → opn F (ofT i) = true → opn L (ofT q) = true → Opn3 S → F.length + S.length ≤ 60000 →
    ∃ (F' : List Tm) (j : Nat), wkR S F (ofT i) = (ofT j, F', 0) ∧ opn F' (ofT j) = true ∧ Ext F F' ∧ F'.length ≤ F.length + S.length ∧
      ((∃ (L' : List Tm) (ps' : List Int) (q' : Nat), Coh A p F' L' ps' ∧ ps <+: ps' ∧ ps'[j]? = some (q' : Int) ∧ wkR S L (ofT q) = (ofT q', L', 0) ∧ opn L' (ofT q') = true ∧ Ext L L') ∨ (putR A F'.tail A [(p : Int)] = ([], [], 6) ∧ wkR S L (ofT q) = (zV, [], 6)))
  | [], F, L, ps, C, i, q, hq, oF, oL, _, _ => ⟨F, i, rfl, oF, Ext.self _, by simp, .inl ⟨L, ps, q, C, List.prefix_refl _, hq, rfl, oL, Ext.self _⟩⟩
  | s :: S, F, L, ps, C, i, q, hq, oF, oL, oS, hl => by
    simp only [List.length_cons] at hl ⊢
    have h01 := oS s (by simp)
    have oS' : Opn3 S := fun t ht => oS t (by simp [ht])
    obtain ⟨F1, j1, a1, a2, a3, a4, a5⟩ := coh_step C hq oF oL h01.1 h01.2 (by omega)
    rcases a5 with ⟨L1, ps1, q1, C1, b1, b2, b3, b4, b5⟩ | ⟨b1, b2⟩
    · obtain ⟨F2, j2, c1, c2, c3, c4, c5⟩ := coh_walk S C1 b2 a2 b4 oS' (by omega)
      refine ⟨F2, j2, by rw [wkR_cons a1, c1], c2, a3.trans c3, by omega, ?_⟩
      rcases c5 with ⟨L2, ps2, q2, C2, d1, d2, d3, d4, d5⟩ | ⟨d1, d2⟩
      · exact .inl ⟨L2, ps2, q2, C2, b1.trans d1, d2, by rw [wkR_cons b3, d3], d4, b5.trans d5⟩
      · exact .inr ⟨d1, by rw [wkR_cons b3, d2]⟩
    · obtain ⟨F2, j2, c1, c2, c3, c4⟩ := wkR_place a2 oS' (by omega)
      refine ⟨F2, j2, by rw [wkR_cons a1, c1], c2, a3.trans c3, by omega, .inr ⟨putR_ext c3 (a3.nz C.nz) b1, ?_⟩⟩
      rw [wkR, b2, if_neg (by decide)]
/-! ### entries -/
def wdE (_h k : Int) (s : Int × Int) : List Int := if s.2 = 0 then keyW k s.1 s.2 else labW s.1 s.2
theorem wdE_opn {h k : Int} {s : Int × Int} : Opn3 (wdE h k s) := by
  unfold wdE
  split
  · exact keyW_opn
  · exact labW_opn
theorem wdE_len {h k : Int} {s : Int × Int} (hs : subB h s.1 s.2 = true) : (wdE h k s).length ≤ 66 := by
  unfold wdE
  split
  · exact key_len hs
  · have := lab_len hs
    unfold labW
    omega
theorem stp_word {A : List Tm} {h k : Int} {m : Val} {s : Int × Int} (hs : subB h s.1 s.2 = true) (hy : myV h k s.1 s.2 = true) (ho : opn A m = true) : stpA A h k m s = wkR (wdE h k s) A m := by
  unfold stpA wdE
  by_cases h0 : s.2 = 0
  · rw [if_pos h0, if_pos h0, key_byp hy, byp_yes ho]
  · rw [if_neg h0, if_neg h0, lab_byp hs, byp_yes ho]
def ren (ps : List Int) (x : En) : En := (x.1, (x.2.1, x.2.2.1, x.2.2.2.1, x.2.2.2.2.1, ps[x.2.2.2.2.2.toNat]?.getD 0))
theorem ren_at {ps : List Int} {s : Int × Int} {j q : Nat} (h : ps[j]? = some (q : Int)) : ren ps (s, ofT j) = (s, ofT q) := by
  unfold ren ofT
  dsimp only
  rw [Int.toNat_natCast, h]
  rfl
theorem ren_more {ps ps' : List Int} (h : ps <+: ps') {x : En} (hx : x.2.2.2.2.2.toNat < ps.length) : ren ps' x = ren ps x := by
  obtain ⟨r, rfl⟩ := h
  unfold ren
  rw [List.getElem?_append_left hx]
theorem Coh.same {A F L L' : List Tm} {p : Nat} {ps ps' : List Int} (C : Coh A p F L ps) (C' : Coh A p F L' ps') : L' = L ∧ ps' = ps := by
  have := C.put
  rw [C'.put] at this
  simp only [Prod.mk.injEq] at this
  exact ⟨this.1, this.2.1⟩
theorem mkR_place {h k : Int} : ∀ (S : List (Int × Int)), (∀ s ∈ S, subB h s.1 s.2 = true ∧ myV h k s.1 s.2 = true) → ∀ {F : List Tm}, opn F (ofT (0 : Nat)) = true → F.length + 66 * S.length ≤ 60000 →
    ∃ E F', mkR h k (ofT (0 : Nat)) S F = (E, F', 0) ∧ Ext F F' ∧ opn F' (ofT (0 : Nat)) = true ∧ F'.length ≤ F.length + 66 * S.length ∧ E.length = S.length ∧ (∀ x ∈ E, ∃ j : Nat, x.2 = ofT j ∧ j < F'.length)
  | [], _, F, oF, _ => ⟨[], F, rfl, Ext.self _, oF, by simp, rfl, fun x hx => by cases hx⟩
  | s :: S, hS, F, oF, hl => by
    simp only [List.length_cons] at hl ⊢
    obtain ⟨h1, h2⟩ := hS s (by simp)
    have hw := wdE_len (k := k) h1
    obtain ⟨F1, j1, a1, a2, a3, a4⟩ := wkR_place (S := wdE h k s) oF wdE_opn (by omega)
    have o1 := opn_ext a3 (opn_iff.1 a2).1 oF
    obtain ⟨E, F2, b1, b2, b3, b4, b5, b6⟩ := mkR_place S (fun t ht => hS t (by simp [ht])) o1 (by omega)
    refine ⟨(s, ofT j1) :: E, F2, ?_, a3.trans b2, b3, by omega, by simp [b5], fun x hx => ?_⟩
    · rw [mkR_step (stp_word h1 h2 oF ▸ a1), b1]
      rfl
    · rcases List.mem_cons.1 hx with rfl | hx
      · obtain ⟨-, g2, -⟩ := part_as (s := 0) a2 (by omega) (by omega)
        exact ⟨j1, rfl, Nat.lt_of_lt_of_le g2 b2.1⟩
      · exact b6 x hx
theorem coh_make {A : List Tm} {p : Nat} {h k : Int} : ∀ (S : List (Int × Int)), (∀ s ∈ S, subB h s.1 s.2 = true ∧ myV h k s.1 s.2 = true) → ∀ {F L : List Tm} {ps : List Int}, Coh A p F L ps → opn F (ofT (0 : Nat)) = true → opn L (ofT p) = true → F.length + 66 * S.length ≤ 60000 →
    ∀ {E F'}, mkR h k (ofT (0 : Nat)) S F = (E, F', 0) → (∃ L' ps', Coh A p F' L' ps' ∧ ps <+: ps' ∧ mkR h k (ofT p) S L = (E.map (ren ps'), L', 0)) ∨ (putR A F'.tail A [(p : Int)] = ([], [], 6) ∧ mkR h k (ofT p) S L = ([], [], 6))
  | [], _, F, L, ps, C, oF, oL, _, E, F', hx => by
    rw [mkR_nil] at hx
    simp only [Prod.mk.injEq] at hx
    obtain ⟨rfl, rfl, -⟩ := hx
    exact .inl ⟨L, ps, C, List.prefix_refl _, rfl⟩
  | s :: S, hS, F, L, ps, C, oF, oL, hl, E, F', hx => by
    simp only [List.length_cons] at hl
    obtain ⟨h1, h2⟩ := hS s (by simp)
    have hw := wdE_len (k := k) h1
    have hp0 : ps[0]? = some (p : Int) := putR_first C.put
    obtain ⟨F1, j1, a1, a2, a3, a4, a5⟩ := coh_walk (wdE h k s) C hp0 oF oL wdE_opn (by omega)
    have o1 := opn_ext a3 (opn_iff.1 a2).1 oF
    have hS' : ∀ t ∈ S, subB h t.1 t.2 = true ∧ myV h k t.1 t.2 = true := fun t ht => hS t (by simp [ht])
    obtain ⟨E2, F2, b1, b2, b3, b4, b5, b6⟩ := mkR_place S hS' o1 (by omega)
    rw [mkR_step (stp_word h1 h2 oF ▸ a1), b1] at hx
    have hx : ((s, ofT j1) :: E2, F2, (0 : Int)) = (E, F', 0) := hx
    simp only [Prod.mk.injEq] at hx
    obtain ⟨rfl, rfl, -⟩ := hx
    rcases a5 with ⟨L1, ps1, q1, C1, c1, c2, c3, c4, c5⟩ | ⟨c1, c2⟩
    · have oL1 := opn_ext c5 C1.okL oL
      rcases coh_make S hS' C1 o1 oL1 (by omega) b1 with ⟨L2, ps2, C2, d1, d2⟩ | ⟨d1, d2⟩
      · refine .inl ⟨L2, ps2, C2, c1.trans d1, ?_⟩
        rw [mkR_step (stp_word h1 h2 oL ▸ c3), d2]
        have e : ren ps2 (s, ofT j1) = (s, ofT q1) := by
          obtain ⟨r, rfl⟩ := d1
          exact ren_at (by rw [List.getElem?_append_left (List.getElem?_eq_some_iff.1 c2).1, c2])
        rw [List.map_cons, e]
        rfl
      · refine .inr ⟨d1, ?_⟩
        rw [mkR_step (stp_word h1 h2 oL ▸ c3), d2]
        exact preE_bad (by decide)
    · refine .inr ⟨putR_ext b2 (a3.nz C.nz) c1, ?_⟩
      exact mkR_stop (stp_word h1 h2 oL ▸ c2) (by decide)
theorem coh_first {A : List Tm} {p : Nat} (ho : opn A (ofT p) = true) {n : Int} (h0 : 0 ≤ n) (h1 : n ≤ 1048576) : Coh A p [(1, n, 0)] A [(p : Int)] := by
  obtain ⟨-, hp, hA, -⟩ := part_as (s := 0) ho (by omega) (by omega)
  refine ⟨by simp, rfl, ok_atom h0 h1, hA, Ext.self _, rfl, fun j h1 h2 => by simp at h2; omega, fun j hj => ?_, fun q h1 h2 => by omega, fun i j hi hj _ => by simp at hi hj; omega, fun j q hq => ?_⟩
  · simp at hj
    subst hj
    exact ⟨p, rfl, hp, fun h => by omega⟩
  · have : j < [(p : Int)].length := (List.getElem?_eq_some_iff.1 hq).1
    simp at this
    subst this
    have := Option.some.inj hq
    omega
/-- by terms -/
theorem make_terms {A : List Tm} {p : Nat} {h k : Int} {S : List (Int × Int)} (hS : ∀ s ∈ S, subB h s.1 s.2 = true ∧ myV h k s.1 s.2 = true) (hl : S.length ≤ 600) (ho : opn A (ofT p) = true) :
    ∃ E F, mkR h k (ofT (0 : Nat)) S [(1, 0, 0)] = (E, F, 0) ∧ F ≠ [] ∧ Ok F ∧ F.length ≤ 60000 ∧ E.length = S.length ∧ (∀ x ∈ E, ∃ j : Nat, x.2 = ofT j ∧ j < F.length) ∧ (∀ j, 1 ≤ j → j < F.length → ∃ (c : Int) (a : Nat), at_ F j = (c, (a : Int), 0) ∧ a < j) ∧
      ((∃ L ps, putR A F.tail A [(p : Int)] = (L, ps, 0) ∧ ps.length = F.length ∧ mkR h k (ofT p) S A = (E.map (ren ps), L, 0) ∧ Ok L) ∨ (putR A F.tail A [(p : Int)] = ([], [], 6) ∧ mkR h k (ofT p) S A = ([], [], 6))) := by
  have o0 : opn [(1, 0, 0)] (ofT (0 : Nat)) = true := opn_atom (by omega) (by omega)
  obtain ⟨E, F, b1, b2, b3, b4, b5, b6⟩ := mkR_place (h := h) (k := k) S hS o0 (by simp; omega)
  have C0 := coh_first ho (n := 0) (by omega) (by omega)
  have hkd : ∀ j, 1 ≤ j → j < F.length → ∃ (c : Int) (a : Nat), at_ F j = (c, (a : Int), 0) ∧ a < j := by
    have o00 : opn [((1 : Int), (0 : Int), (0 : Int))] (ofT (0 : Nat)) = true := o0
    -- the few themselves, behind an atom alone
    have C00 := coh_first o00 (n := 0) (by omega) (by omega)
    rcases coh_make S hS C00 o0 o0 (by simp; omega) b1 with ⟨L, ps, C, -, -⟩ | ⟨-, d2⟩
    · exact C.kd
    · rw [b1] at d2
      simp at d2
  refine ⟨E, F, b1, b2.nz (by simp), (opn_iff.1 b3).1, by simp at b4; omega, b5, b6, hkd, ?_⟩
  rcases coh_make S hS C0 o0 ho (by simp; omega) b1 with ⟨L, ps, C, -, d2⟩ | ⟨d1, d2⟩
  · exact .inl ⟨L, ps, C.put, C.len, d2, C.okL⟩
  · exact .inr ⟨d1, d2⟩
/-! ### by octets -/
theorem wkR_octets : ∀ (S : List Int) {A : List Tm} {v : Val}, opn A v = true → v.1 = false → Opn3 S → ∃ z : Val, z.1 = false ∧ ∀ B, Ok B → wkR S B v = (z, B, 0)
  | [], A, v, _, hs, _ => ⟨v, hs, fun B _ => rfl⟩
  | s :: S, A, v, ho, hs, oS => by
    have h01 := oS s (by simp)
    obtain ⟨hA, hm, hl⟩ := opn_iff.1 ho
    have hp : ∀ B, Ok B → opn B v = true ∧ partA B v s = (ofB (partV v.2.2.1 s), B, 0) := fun B hB => by
      have hm' : mb B v = true := by
        obtain ⟨h1, h2⟩ := mb_iff.1 hm
        exact mb_iff.2 ⟨h1, fun h => by rw [hs] at h; cases h⟩
      have hl' : sld B v = false := by
        unfold sld at hl ⊢
        rw [hs] at hl ⊢
        exact hl
      refine ⟨opn_iff.2 ⟨hB, hm', hl'⟩, ?_⟩
      unfold partA
      rw [if_pos ⟨hm', hl', h01⟩, if_neg (by rw [hs]; decide)]
      unfold mkO
      rw [if_pos hB]
    obtain ⟨o1, -⟩ := hp A hA
    have ob : opn A (ofB (partV v.2.2.1 s)) = true := opn_iff.2 ⟨hA, mb_ofB, rfl⟩
    obtain ⟨z, z1, z2⟩ := wkR_octets S ob rfl (fun t ht => oS t (by simp [ht]))
    exact ⟨z, z1, fun B hB => by rw [wkR_cons (hp B hB).2, z2 B hB]⟩
theorem make_octets {h k : Int} {m : Val} : ∀ (S : List (Int × Int)), (∀ s ∈ S, subB h s.1 s.2 = true ∧ myV h k s.1 s.2 = true) → ∀ {A : List Tm}, opn A m = true → m.1 = false → ∃ E, ∀ B, opn B m = true → mkR h k m S B = (E, B, 0)
  | [], _, A, _, _ => ⟨[], fun B _ => rfl⟩
  | s :: S, hS, A, ho, hs => by
    obtain ⟨h1, h2⟩ := hS s (by simp)
    obtain ⟨z, -, hz⟩ := wkR_octets (wdE h k s) ho hs wdE_opn
    obtain ⟨E, hE⟩ := make_octets S (fun t ht => hS t (by simp [ht])) ho hs
    refine ⟨(s, z) :: E, fun B hB => ?_⟩
    rw [mkR_step (stp_word h1 h2 hB ▸ hz B (opn_iff.1 hB).1), hE B hB]
    rfl
theorem opn_none {A : List Tm} {m : Val} (ho : opn A m = true) (hs : m.1 = false) : opn [] m = true := by
  obtain ⟨hA, hm, hl⟩ := opn_iff.1 ho
  refine opn_iff.2 ⟨ok_nil, ?_, ?_⟩
  · obtain ⟨h1, h2⟩ := mb_iff.1 hm
    exact mb_iff.2 ⟨h1, fun h => by rw [hs] at h; cases h⟩
  · unfold sld at hl ⊢
    rw [hs] at hl ⊢
    exact hl
/-- may a value be had: it may be with the terms, and is not sealed -/
def hadB (A : List Tm) (v : Val) : Bool := if v.1 = true then decide (v = ofT v.2.2.2.2) && (decide (0 ≤ v.2.2.2.2) && (decide (v.2.2.2.2 < A.length) && !decide ((at_ A v.2.2.2.2.toNat).1 = 5))) else decide (v = ofB v.2.2.1)
end M
end Go.Proofs.YthmiekinjfaflaaGreat
namespace Go.Proofs.YthmiekinjfaflaaGreat
open Go.RowKit
namespace M
theorem had_opn {A : List Tm} {v : Val} (hA : Ok A) : hadB A v = opn A v := by
  unfold hadB
  rw [Bool.eq_iff_iff, opn_iff, mb_iff]
  cases hs : v.1 with
  | true =>
    rw [if_pos rfl]
    simp only [Bool.and_eq_true, decide_eq_true_eq, Bool.not_eq_true', decide_eq_false_iff_not]
    have hb : bare v = ofT v.2.2.2.2 := by unfold bare; rw [if_pos hs]
    constructor
    · rintro ⟨h1, h2, h3, h4⟩
      refine ⟨hA, ⟨by rw [hb]; exact h1, fun _ => ⟨h2, h3⟩⟩, ?_⟩
      unfold sld
      rw [show v.2.1 = false by rw [h1]; rfl, hs, decide_eq_false h4]
      rfl
    · rintro ⟨-, ⟨h1, h2⟩, h3⟩
      rw [hb] at h1
      refine ⟨h1, (h2 hs).1, (h2 hs).2, fun h4 => ?_⟩
      unfold sld at h3
      rw [hs, decide_eq_true h4, Bool.and_true, Bool.or_true] at h3
      cases h3
  | false =>
    rw [if_neg (by decide)]
    simp only [decide_eq_true_eq]
    constructor
    · intro h1
      refine ⟨hA, ⟨?_, fun h => by rw [hs] at h; cases h⟩, ?_⟩
      · unfold bare
        rw [if_neg (by rw [hs]; decide), if_neg (by rw [h1]; exact fun h => nomatch h)]
        exact h1
      · unfold sld
        rw [h1]
        rfl
    · rintro ⟨-, ⟨h1, -⟩, h3⟩
      unfold sld at h3
      rw [hs, Bool.false_and, Bool.or_false] at h3
      unfold bare at h1
      rwa [if_neg (by rw [hs]; decide), if_neg (by rw [h3]; decide)] at h1
end M
set_option maxRecDepth 100000 in
set_option maxHeartbeats 4000000 in
theorem had_any {A : List M.Tm} {v : M.Val} {r : Bool} (hr : M.hadB A v = r) {vl : Value} (w : World) (u : Ts w vl A) :
    Calls Tryz.prog 15 #[vl, (.agg #[.bool v.1, .bool v.2.1, .int .u64 (M.nu v.2.2.1.1), .int .u64 (M.nu v.2.2.1.2), .int .u64 (M.nu v.2.2.2.1.1.1), .int .u64 (M.nu v.2.2.2.1.1.2), .int .u64 (M.nu v.2.2.2.1.2.1), .int .u64 (M.nu v.2.2.2.1.2.2), .int .i64 v.2.2.2.2])] w fun e w' => e = .returned (.bool r) ∧ Below w.heap.size w w' := by
  have X0 := Bx9.new w v
  have c0 := X0.cells
  have U0 := hidq (u.alloc (.cells #[.bool v.1, .bool v.2.1, .int .u64 (M.nu v.2.2.1.1), .int .u64 (M.nu v.2.2.1.2), .int .u64 (M.nu v.2.2.2.1.1.1), .int .u64 (M.nu v.2.2.2.1.1.2), .int .u64 (M.nu v.2.2.2.1.2.1), .int .u64 (M.nu v.2.2.2.1.2.2), .int .i64 v.2.2.2.2] 29))
  have B0 := hidq (show Below w.heap.size w (w.alloc (.cells #[.bool v.1, .bool v.2.1, .int .u64 (M.nu v.2.2.1.1), .int .u64 (M.nu v.2.2.1.2), .int .u64 (M.nu v.2.2.2.1.1.1), .int .u64 (M.nu v.2.2.2.1.1.2), .int .u64 (M.nu v.2.2.2.1.2.1), .int .u64 (M.nu v.2.2.2.1.2.2), .int .i64 v.2.2.2.2] 29)) from below_one (Below.refl _ _))
  obtain ⟨ao, cap, rfl, q1, q2, q4⟩ := u.form
  have HQ4 := hidq q4
  clear u q4
  unfold M.hadB at hr
  obtain ⟨s, l, b, q, t⟩ := v
  dsimp only at hr c0
  cases s with
  | false =>
    rw [if_neg (by decide)] at hr
    have hq : ∀ W, (Op.equalIn 10000 29 (.agg #[.bool false, .bool l, .int .u64 (M.nu b.1), .int .u64 (M.nu b.2), .int .u64 (M.nu q.1.1), .int .u64 (M.nu q.1.2), .int .u64 (M.nu q.2.1), .int .u64 (M.nu q.2.2), .int .i64 t]) (.agg #[.bool false, .bool false, .int .u64 (M.nu b.1), .int .u64 (M.nu b.2), .int .u64 0, .int .u64 0, .int .u64 0, .int .u64 0, .int .i64 0])).run Tryz.prog W = .ok r W := fun W => by
      rw [eqVa, ← hr]
      have := val_beq (false, l, b, q, t) (M.ofB b)
      exact congrArg (fun x => Result.ok x W) this
    clear hr X0
    go_enter Tryz.func15, Tryz.ntmps15
    go_wp2
    go_ret
    exact ⟨rfl, B0.out⟩
  | true =>
    rw [if_pos rfl] at hr
    obtain ⟨r1, hr1⟩ : ∃ r1, decide (((true, l, b, q, t) : M.Val) = M.ofT t) = r1 := ⟨_, rfl⟩
    rw [hr1] at hr
    have hq : ∀ W, (Op.equalIn 10000 29 (.agg #[.bool true, .bool l, .int .u64 (M.nu b.1), .int .u64 (M.nu b.2), .int .u64 (M.nu q.1.1), .int .u64 (M.nu q.1.2), .int .u64 (M.nu q.2.1), .int .u64 (M.nu q.2.2), .int .i64 t]) (.agg #[.bool true, .bool false, .int .u64 0, .int .u64 0, .int .u64 0, .int .u64 0, .int .u64 0, .int .u64 0, .int .i64 t])).run Tryz.prog W = .ok r1 W := fun W => by
      rw [eqVa, ← hr1]
      have := val_beq (true, l, b, q, t) (M.ofT t)
      exact congrArg (fun x => Result.ok x W) this
    clear hr1 X0
    cases r1 with
    | false =>
      obtain rfl : r = false := by rw [← hr]; rfl
      clear hr
      go_enter Tryz.func15, Tryz.ntmps15
      go_wp2
      go_ret
      exact ⟨rfl, B0.out⟩
    | true =>
      by_cases h1 : 0 ≤ t
      · by_cases h2 : t < A.length
        · obtain ⟨k, rfl⟩ : ∃ k : Nat, t = k := ⟨t.toNat, by omega⟩
          obtain ⟨bF, oF, rfl⟩ := HQ4.out (by omega)
          obtain ⟨x1, x2, x3⟩ := Ts.cell U0.out (k := k) (by omega)
          rw [decide_eq_true h1, decide_eq_true h2, Int.toNat_natCast] at hr
          obtain ⟨c, hc⟩ : ∃ c, (M.at_ A k).1 = c := ⟨_, rfl⟩
          rw [hc] at hr x1
          have h3 : k < A.length := by omega
          by_cases h5 : c = 5
          · obtain rfl : r = false := by rw [← hr, decide_eq_true h5]; rfl
            subst h5
            clear hr hc
            go_enter Tryz.func15, Tryz.ntmps15
            go_wp2
            go_ret
            exact ⟨rfl, B0.out⟩
          · obtain rfl : r = true := by rw [← hr, decide_eq_false h5]; rfl
            have h5b : (c == 5) = false := beq_eq_false_iff_ne.2 h5
            have h5c : (c != 5) = true := by simpa using h5
            clear hr hc
            go_enter Tryz.func15, Tryz.ntmps15
            go_wp2
            go_ret
            exact ⟨rfl, B0.out⟩
        · obtain rfl : r = false := by rw [← hr, decide_eq_false h2]; simp
          clear hr
          go_enter Tryz.func15, Tryz.ntmps15
          go_wp2
          go_ret
          exact ⟨rfl, B0.out⟩
      · obtain rfl : r = false := by rw [← hr, decide_eq_false h1]; simp
        clear hr
        go_enter Tryz.func15, Tryz.ntmps15
        go_wp2
        go_ret
        exact ⟨rfl, B0.out⟩
end Go.Proofs.YthmiekinjfaflaaGreat
