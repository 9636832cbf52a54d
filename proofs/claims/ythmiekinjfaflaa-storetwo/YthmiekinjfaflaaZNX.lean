/-
  Plain mathematics for the laws of layer 7: which errors go together; what is wrapped is taken out. No condition.
-/
import Derived.Test.YthmiekinjfaflaaZNW
namespace Go.Proofs.Ythmiekinjfaflaa
namespace M
theorem mkO_err {A : List Tm} {v : Val} : (mkO A v).2.2 = chkE A := by
  unfold mkO chkE
  by_cases h : Ok A
  · rw [if_pos h, if_pos h]
  · rw [if_neg h, if_neg h]
theorem mkT_err {A : List Tm} {t : Tm} : (mkT A t).2.2 = makeE A t := by
  unfold mkT; by_cases h : makeE A t = 0 <;> simp [h]
theorem make_bad {A : List Tm} {t : Tm} (h : ¬ Ok A) : makeE A t = 1 := by
  have : findE A t = 1 := by unfold findE; rw [if_neg fun h' => h h'.1]
  unfold makeE; rw [this]; simp
theorem make_small {A : List Tm} {t : Tm} (h : Ok A) (hm : mayB t A.length = true) (hl : A.length ≤ 60000) : makeE A t = 0 := by
  unfold makeE
  by_cases hp : plc t A = none
  · have e : findE A t = 4 := by unfold findE; rw [if_pos ⟨h, hm⟩, if_pos hp]
    rw [if_pos e, if_neg (by omega)]
  · have e : findE A t = 0 := by unfold findE; rw [if_pos ⟨h, hm⟩, if_neg hp]
    rw [e, if_neg (by decide)]
theorem mkT_err0 {A : List Tm} {t : Tm} (h : (mkT A t).2.2 = 0) : Ok A := (make_zero (mkT_err ▸ h)).1
theorem mkO_err0 {A : List Tm} {v : Val} (h : (mkO A v).2.2 = 0) : Ok A := by
  rw [mkO_err] at h
  unfold chkE at h
  by_cases hA : Ok A
  · exact hA
  · rw [if_neg hA] at h; cases h
theorem part_err0 {A : List Tm} {v : Val} {i : Int} (h : (partA A v i).2.2 = 0) : Ok A ∧ PartOk A v i := by
  unfold partA at h
  by_cases hp : PartOk A v i
  · rw [if_pos hp] at h
    refine ⟨?_, hp⟩
    by_cases hs : v.1 = true
    · rw [if_pos hs] at h; exact mkT_err0 h
    · rw [if_neg hs] at h; exact mkO_err0 h
  · rw [if_neg hp] at h; cases h
theorem wrap_err0 {A : List Tm} {k v : Val} (h : (wrapA A k v).2.2 = 0) : Ok A ∧ WrapOk A k v := by
  unfold wrapA at h
  by_cases hp : WrapOk A k v
  · rw [if_pos hp] at h
    refine ⟨?_, hp⟩
    by_cases hs : k.1 = true
    · rw [if_pos hs] at h; exact mkT_err0 h
    · rw [if_neg hs] at h; exact mkO_err0 h
  · rw [if_neg hp] at h; cases h
theorem part_no1 {A : List Tm} {v : Val} {i : Int} (h : ¬ PartOk A v i) : (partA A v i).2.2 = 1 := by unfold partA; rw [if_neg h]
theorem wrap_no1 {A : List Tm} {k v : Val} (h : ¬ WrapOk A k v) : (wrapA A k v).2.2 = 1 := by unfold wrapA; rw [if_neg h]
theorem un_no1 {A : List Tm} {k v : Val} (h : ¬ UnOk A k v) : (unA A k v).2 = 1 := by unfold unA; rw [if_neg h]
theorem part_ok {A : List Tm} {v : Val} {i : Int} (hA : Ok A) (hl : A.length ≤ 60000) (h : PartOk A v i) : (partA A v i).2.2 = 0 := by
  unfold partA
  rw [if_pos h]
  obtain ⟨hm, _, h0, h2⟩ := h
  by_cases hs : v.1 = true
  · rw [if_pos hs, mkT_err]
    obtain ⟨t0, t1⟩ := (mb_iff.1 hm).2 hs
    refine make_small hA ?_ hl
    unfold mayB
    have hk : 2 + i = 2 ∨ 2 + i = 3 ∨ 2 + i = 4 := by omega
    have hn : ¬ (2 + i = 1) := by omega
    simp only [hn, if_false, hk, if_true]
    simp [ahd, t0, t1]
  · rw [if_neg hs, mkO_err]; exact if_pos hA
theorem un_out {A : List Tm} {k v : Val} (h : (unA A k v).2 = 0 ∨ (unA A k v).2 = 7) : UnOk A k v := by
  by_cases hp : UnOk A k v
  · exact hp
  · rw [un_no1 hp] at h; omega
theorem kinds {A : List Tm} {a b : Val} {i : Int} (hl : A.length ≤ 60) {e f g h c : Int} (he : (wrapA A a b).2.2 = e) (hf : (unA A a b).2 = f) (hg : (partA A a i).2.2 = g) (hh : (partA A b 2).2.2 = h) (hc : chkV A a = c) :
    (¬ a.1 = b.1 → e = 1 ∧ f = 1) ∧ (g = 0 → c = 0) ∧ (e = 0 → h = 0 ∧ f = 1) ∧ (f = 0 ∨ f = 7 → h = 1) := by
  refine ⟨fun hab => ⟨?_, ?_⟩, fun h0 => ?_, fun h0 => ⟨?_, ?_⟩, fun h0 => ?_⟩
  · rw [← he]; exact wrap_no1 fun h => hab h.1.2.2
  · rw [← hf]; exact un_no1 fun h => hab h.2.1.2.2
  · rw [← hg] at h0
    obtain ⟨h1, h2⟩ := part_err0 h0
    rw [← hc]; exact if_pos ⟨h1, h2.1⟩
  · rw [← he] at h0
    obtain ⟨h1, h2⟩ := wrap_err0 h0
    rw [← hh]; exact part_ok h1 (by omega) ⟨h2.1.2.1, h2.2.2, by decide, by decide⟩
  · rw [← he] at h0
    obtain ⟨h1, h2⟩ := wrap_err0 h0
    rw [← hf]; exact un_no1 fun h => by have := h.2.2.2; rw [h2.2.2] at this; cases this
  · rw [← hf] at h0
    have := un_out h0
    rw [← hh]; exact part_no1 fun h => by have h3 := h.2.1; rw [this.2.2.2] at h3; cases h3
/-- L is A, with more behind it, or none -/
abbrev Ext (A L : List Tm) : Prop := A.length ≤ L.length ∧ L.take A.length = A
theorem Ext.at {A L : List Tm} (h : Ext A L) {j : Nat} (hj : j < A.length) : at_ L j = at_ A j := by
  have := at_take (l := L) hj
  rw [h.2] at this
  exact this.symm
theorem Ext.self (A : List Tm) : Ext A A := ⟨Nat.le_refl _, List.take_length⟩
theorem Ext.mbL {A L : List Tm} (h : Ext A L) {v : Val} (hv : mb A v = true) : mb L v = true := by
  obtain ⟨h1, h2⟩ := mb_iff.1 hv
  refine mb_iff.2 ⟨h1, fun hs => ?_⟩
  have := h2 hs
  have := h.1
  omega
theorem Ext.sldL {A L : List Tm} (h : Ext A L) {v : Val} (hv : mb A v = true) : sld L v = sld A v := by
  unfold M.sld
  cases hs : v.1 with
  | false => simp
  | true =>
    have := (mb_iff.1 hv).2 hs
    rw [h.at (by omega)]
theorem Ext.make {A : List Tm} {t : Tm} (h : makeE A t = 0) : Ext A (makeL A t) := ⟨(make_len h).1, (make_len h).2.2⟩
theorem mb_sym {A : List Tm} {v : Val} (h : mb A v = true) (hs : v.1 = true) : v = ofT v.2.2.2.2 := by
  have := (mb_iff.1 h).1
  unfold bare at this
  rw [if_pos hs] at this
  exact this
theorem mb_oct {A : List Tm} {v : Val} (h : mb A v = true) (hs : v.1 = false) (hl : sld A v = false) : v = ofB v.2.2.1 := by
  have := (mb_iff.1 h).1
  have h2 : v.2.1 = false := by
    unfold sld at hl
    rw [hs] at hl
    simpa using hl
  unfold bare at this
  rw [if_neg (by rw [hs]; decide), if_neg (by rw [h2]; decide)] at this
  exact this
theorem mb_ofT {A : List Tm} {i : Nat} (h : i < A.length) : mb A (ofT i) = true :=
  mb_iff.2 ⟨rfl, fun _ => ⟨by show (0 : Int) ≤ (i : Int); omega, by show (i : Int) < A.length; omega⟩⟩
theorem mb_ofS {A : List Tm} {s : Sea} : mb A (ofS s) = true := mb_iff.2 ⟨rfl, fun h => by cases h⟩
theorem mb_ofB {A : List Tm} {b : Blk} : mb A (ofB b) = true := mb_iff.2 ⟨rfl, fun h => by cases h⟩
theorem sld_ofT {A : List Tm} {i : Nat} : sld A (ofT i) = decide ((at_ A i).1 = 5) := by
  show (false || (true && decide ((at_ A (i : Int).toNat).1 = 5))) = _
  rw [Int.toNat_natCast]; simp
theorem un_of_wrap {A L : List Tm} {k v o : Val} (_ : Ok A) (hL : Ok L) (hx : Ext A L) (hp : WrapOk A k v) (hs : k.1 = true) {i : Nat} (hi : i < L.length) (ht : at_ L i = (5, k.2.2.2.2, v.2.2.2.2)) :
    unA L k (ofT i) = (v, 0) ∧ (o.1 = true → ((unA L o (ofT i)).2 = 0 ↔ o = k)) := by
  obtain ⟨⟨hk, hv, hkv⟩, sk, sv⟩ := hp
  have e1 := mb_sym hk hs
  have e2 := mb_sym hv (hkv ▸ hs)
  have sx : sld L (ofT i) = true := by rw [sld_ofT, ht]; rfl
  have mk := hx.mbL hk
  have skL : sld L k = false := by rw [hx.sldL hk]; exact sk
  have hu : UnOk L k (ofT i) := ⟨hL, ⟨mk, mb_ofT hi, hs⟩, skL, sx⟩
  have hT : (ofT (i : Int)).2.2.2.2.toNat = i := by show (i : Int).toNat = i; exact Int.toNat_natCast i
  have first : unA L k (ofT i) = (v, 0) := by
    unfold unA
    rw [if_pos hu, if_pos hs, hT, ht, if_pos rfl, ← e2]
  refine ⟨first, fun ho => ⟨fun h => ?_, fun h => by rw [h, first]⟩⟩
  have hq := un_out (.inl h)
  unfold unA at h
  rw [if_pos hq, if_pos ho, hT, ht] at h
  by_cases ha : k.2.2.2.2 = o.2.2.2.2
  · rw [mb_sym hq.2.1.1 ho, e1, ha]
  · rw [if_neg ha] at h; cases h
theorem back {A : List Tm} {k v o : Val} {x : Val} {L : List Tm} {e : Int} (hw : wrapA A k v = (x, L, e)) :
    (¬ e = 0 → x = zV ∧ L = []) ∧ (e = 0 → Ok L ∧ unA L k x = (v, 0) ∧ chkV L x = 0 ∧ (k.1 = true → o.1 = true → ((unA L o x).2 = 0 ↔ o = k))) := by
  have he : (wrapA A k v).2.2 = e := by rw [hw]
  constructor
  · intro hne
    unfold wrapA at hw he
    by_cases hp : WrapOk A k v
    · rw [if_pos hp] at hw he
      by_cases hs : k.1 = true
      · rw [if_pos hs] at hw he
        rw [mkT_err] at he
        unfold mkT at hw
        rw [if_neg (by rw [he]; exact hne)] at hw
        simp only [Prod.mk.injEq] at hw
        exact ⟨hw.1.symm, hw.2.1.symm⟩
      · rw [if_neg hs] at hw he
        unfold mkO at hw
        by_cases hA : Ok A
        · rw [if_pos hA] at hw
          simp only [Prod.mk.injEq] at hw
          exact absurd hw.2.2.symm hne
        · rw [if_neg hA] at hw
          simp only [Prod.mk.injEq] at hw
          exact ⟨hw.1.symm, hw.2.1.symm⟩
    · rw [if_neg hp] at hw
      simp only [Prod.mk.injEq] at hw
      exact ⟨hw.1.symm, hw.2.1.symm⟩
  · intro h0
    rw [h0] at he
    obtain ⟨hA, hp⟩ := wrap_err0 he
    unfold wrapA at hw he
    rw [if_pos hp] at hw he
    by_cases hs : k.1 = true
    · rw [if_pos hs] at hw he
      rw [mkT_err] at he
      unfold mkT at hw
      rw [if_pos he] at hw
      simp only [Prod.mk.injEq] at hw
      obtain ⟨rfl, rfl, _⟩ := hw
      obtain ⟨i, e1, e2, e3, _⟩ := make_there he
      rw [e1]
      have hL := make_ok he
      obtain ⟨u1, u2⟩ := un_of_wrap (o := o) hA hL (Ext.make he) hp hs e2 e3
      exact ⟨hL, u1, if_pos ⟨hL, mb_ofT e2⟩, fun _ => u2⟩
    · have hs' : k.1 = false := by simpa using hs
      rw [if_neg hs] at hw he
      unfold mkO at hw
      rw [if_pos hA] at hw
      simp only [Prod.mk.injEq] at hw
      obtain ⟨rfl, rfl, _⟩ := hw
      obtain ⟨⟨hk, hv, hkv⟩, sk, sv⟩ := hp
      have e1 := mb_oct hk hs' sk
      have e2 := mb_oct hv (hkv ▸ hs') sv
      refine ⟨hA, ?_, if_pos ⟨hA, mb_ofS⟩, fun h => absurd h hs⟩
      unfold unA
      rw [if_pos ⟨hA, ⟨hk, mb_ofS, hs'⟩, sk, rfl⟩, if_neg hs]
      show (ofB (unV k.2.2.1 (wrap k.2.2.1 v.2.2.1)), unE k.2.2.1 (wrap k.2.2.1 v.2.2.1)) = (v, 0)
      rw [unV_wrap, unE_wrap, ← e2]
end M
end Go.Proofs.Ythmiekinjfaflaa
