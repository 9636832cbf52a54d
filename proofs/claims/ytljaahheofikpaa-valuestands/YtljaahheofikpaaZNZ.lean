/-
  Plain mathematics for the law ValueStands: what comes of what is made. No condition.
-/
import Derived.Test.YtljaahheofikpaaZNX
namespace Go.Proofs.Ytljaahheofikpaa
namespace M
/-- nothing in it is made of what is sealed, and each atom has a block -/
def Good (A : List Tm) (n j : Nat) : Prop := ∀ k, Rk A j 0 k → usesS A (at_ A k) = false ∧ noBlk n (at_ A k) = false
theorem eval_zero {A : List Tm} {i : Int} {n : Nat} : evalE A i n = 0 ↔ Ok A ∧ 0 ≤ i ∧ i < (A.length : Int) ∧ Good A n i.toNat := by
  have key : ∀ (hA : Ok A) (h0 : 0 ≤ i) (h1 : i < (A.length : Int)), deepE A i = 0 ∧ ∀ x, x ∈ withinL A i ↔ ∃ k : Nat, Rk A i.toNat 0 k ∧ x = k := by
    intro hA h0 h1
    have ht : thr A i = true := thr_iff.2 ⟨hA, h0, h1⟩
    refine ⟨by unfold deepE; rw [if_pos ht], fun x => ?_⟩
    unfold withinL
    rw [if_pos ht, outL_mem]
    constructor
    · rintro ⟨j, hj, hr, rfl⟩
      exact ⟨j, (rkB_iff hA (by omega) (by omega)).1 hr, rfl⟩
    · rintro ⟨k, hr, rfl⟩
      exact ⟨k, by have := hr.le hA (by omega); omega, (rkB_iff hA (by omega) (by omega)).2 hr, rfl⟩
  constructor
  · intro h
    have hd : deepE A i = 0 := by
      unfold evalE at h
      by_cases hd : deepE A i = 0
      · exact hd
      · rw [if_neg hd] at h; exact h
    have ht : thr A i = true := by
      unfold deepE at hd
      by_cases ht : thr A i = true
      · exact ht
      · rw [if_neg ht] at hd; cases hd
    obtain ⟨hA, h0, h1⟩ := thr_iff.1 ht
    refine ⟨hA, h0, h1, fun k hk => ?_⟩
    have hm := ((key hA h0 h1).2 (k : Int)).2 ⟨k, hk, rfl⟩
    unfold evalE at h
    rw [if_pos hd] at h
    by_cases h2 : (withinL A i).any (fun k => usesS A (at_ A k.toNat)) = true
    · rw [if_pos h2] at h; cases h
    · rw [if_neg h2] at h
      by_cases h3 : (withinL A i).any (fun k => noBlk n (at_ A k.toNat)) = true
      · rw [if_pos h3] at h; cases h
      · have e2 := List.any_eq_false.1 (by simpa using h2) (k : Int) hm
        have e3 := List.any_eq_false.1 (by simpa using h3) (k : Int) hm
        rw [Int.toNat_natCast] at e2 e3
        exact ⟨by simpa using e2, by simpa using e3⟩
  · rintro ⟨hA, h0, h1, hg⟩
    obtain ⟨hd, hm⟩ := key hA h0 h1
    unfold evalE
    rw [if_pos hd, if_neg, if_neg]
    · rw [Bool.not_eq_true, List.any_eq_false]
      intro x hx
      obtain ⟨k, hk, rfl⟩ := (hm x).1 hx
      rw [Int.toNat_natCast, (hg k hk).2]; simp
    · rw [Bool.not_eq_true, List.any_eq_false]
      intro x hx
      obtain ⟨k, hk, rfl⟩ := (hm x).1 hx
      rw [Int.toNat_natCast, (hg k hk).1]; simp
theorem eval_val {A : List Tm} {i : Int} {T : List Blk} (h : evalE A i T.length = 0) : evalV A i T = ev A T i.toNat := if_pos h
theorem parts_lt {A : List Tm} (hA : Ok A) {j : Nat} (hj : j < A.length) {p : Int} (hp : p ∈ parts (at_ A j)) : 0 ≤ p ∧ p.toNat < j := by
  have := parts_ahead (hA.2 j hj).1 p hp
  omega
theorem Ext.ev {A L : List Tm} (hA : Ok A) (hL : Ok L) (hx : Ext A L) (T : List Blk) : ∀ (n j : Nat), j < n → j < A.length → ev L T j = ev A T j := by
  intro n
  induction n with
  | zero => intro j h; omega
  | succ n ih =>
    intro j hjn hj
    have hjL : j < L.length := by have := hx.1; omega
    rw [ev_eq (hL.2 j hjL).1, ev_eq (hA.2 j hj).1, hx.at hj]
    refine stepE_congr (fun p hp => ?_) (may_kinds (hA.2 j hj).1)
    have := parts_lt hA hj hp
    exact ih p.toNat (by omega) (by omega)
theorem Rk.from_parts {A : List Tm} {j k : Nat} (h : Rk A j 0 k) : k = j ∨ ∃ p ∈ parts (at_ A j), Rk A p.toNat 0 k := by
  refine h.ind (P := fun k => k = j ∨ ∃ p ∈ parts (at_ A j), Rk A p.toNat 0 k) (.inl rfl) fun a p _ hP _ hp => ?_
  rcases hP with rfl | ⟨q, hq, hr⟩
  · exact .inr ⟨p, hp, Rk.self⟩
  · exact .inr ⟨q, hq, hr.step (Nat.zero_le _) hp⟩
theorem Good.mk {A : List Tm} {n j : Nat} (h1 : usesS A (at_ A j) = false) (h2 : noBlk n (at_ A j) = false) (h3 : ∀ p ∈ parts (at_ A j), Good A n p.toNat) : Good A n j := fun k hk => by
  rcases hk.from_parts with rfl | ⟨p, hp, hr⟩
  · exact ⟨h1, h2⟩
  · exact h3 p hp k hr
theorem Good.part {A : List Tm} {n j : Nat} (h : Good A n j) {p : Int} (hp : p ∈ parts (at_ A j)) : Good A n p.toNat := fun k hk => by
  refine h k (hk.ind (P := fun k => Rk A j 0 k) (Rk.self.step (Nat.zero_le _) hp) fun a q _ ha _ hq => ha.step (Nat.zero_le _) hq)
theorem Ext.good {A L : List Tm} (hA : Ok A) (hx : Ext A L) {n : Nat} : ∀ (m j : Nat), j < m → j < A.length → Good A n j → Good L n j := by
  intro m
  induction m with
  | zero => intro j h; omega
  | succ m ih =>
    intro j hjm hj hg
    have e := hx.at hj
    obtain ⟨g1, g2⟩ := hg j Rk.self
    refine Good.mk ?_ (by rw [e]; exact g2) fun p hp => ?_
    · rw [e]
      unfold usesS at g1 ⊢
      rw [List.any_eq_false] at g1 ⊢
      intro p hp
      have := parts_lt hA hj hp
      rw [hx.at (by omega)]
      exact g1 p hp
    · rw [e] at hp
      have := parts_lt hA hj hp
      exact ih p.toNat (by omega) (by omega) (hg.part hp)
/-- what comes of a term that is not sealed is a block -/
theorem ev_blk {A : List Tm} {T : List Blk} (hA : Ok A) {j : Nat} (hj : j < A.length) (h5 : ¬ (at_ A j).1 = 5) : ev A T j = ofB (ev A T j).2.2.1 := by
  rw [ev_eq (hA.2 j hj).1]
  unfold stepE
  by_cases h1 : (at_ A j).1 = 1
  · rw [if_pos h1]; rfl
  · rw [if_neg h1, if_neg h5]; rfl
theorem sld_kind {A : List Tm} {i : Int} (h0 : 0 ≤ i) : sld A (ofT i) = decide ((at_ A i.toNat).1 = 5) := by
  have e : i = (i.toNat : Int) := by omega
  rw [e, sld_ofT, Int.toNat_natCast]
theorem ok_nil : Ok [] := ⟨by simp, fun i hi => absurd hi (by simp)⟩
theorem made_there {A : List Tm} {t : Tm} {x : Val} {L : List Tm} (h : mkT A t = (x, L, 0)) : Ok L ∧ Ext A L ∧ ∃ i : Nat, x = ofT i ∧ i < L.length ∧ at_ L i = t := by
  have he : makeE A t = 0 := by rw [← mkT_err, h]
  unfold mkT at h
  rw [if_pos he] at h
  simp only [Prod.mk.injEq] at h
  obtain ⟨rfl, rfl, _⟩ := h
  obtain ⟨i, e1, e2, e3, _⟩ := make_there he
  exact ⟨make_ok he, Ext.make he, i, by rw [e1], e2, e3⟩
theorem stands_part {A : List Tm} {T : List Blk} {i p : Int} (he : evalE A i T.length = 0) {x : Val} (hx : evalV A i T = x) {z : Val} {L : List Tm} (hp : partA A (ofT i) p = (z, L, 0)) :
    ∃ q, evalV L z.2.2.2.2 T = q ∧ evalE L z.2.2.2.2 T.length = 0 ∧ partA [] x p = (q, [], 0) := by
  obtain ⟨hA, h0, h1, hg⟩ := eval_zero.1 he
  rw [eval_val he] at hx
  obtain ⟨_, hm, hs, p0, p2⟩ := part_err0 (A := A) (v := ofT i) (i := p) (by rw [hp])
  unfold partA at hp
  rw [if_pos ⟨hm, hs, p0, p2⟩, if_pos (show (ofT i).1 = true from rfl)] at hp
  obtain ⟨hL, hX, j, rfl, e2, e3⟩ := made_there hp
  show ∃ q, evalV L (j : Int) T = q ∧ evalE L (j : Int) T.length = 0 ∧ partA [] x p = (q, [], 0)
  change at_ L j = (2 + p, i, 0) at e3
  have k5 : ¬ (at_ A i.toNat).1 = 5 := by
    rw [sld_kind h0] at hs; exact of_decide_eq_false hs
  have hpp : parts (at_ L j) = [i] := by rw [e3]; unfold parts; rw [if_pos (by dsimp only; omega)]
  have hgL : Good L T.length j := by
    refine Good.mk ?_ ?_ fun q hq => ?_
    · unfold usesS
      rw [hpp]
      simp only [List.any_cons, List.any_nil, Bool.or_false, decide_eq_false_iff_not]
      rw [hX.at (by omega)]; exact k5
    · rw [e3]; unfold noBlk; dsimp only; rw [decide_eq_false (by omega)]; rfl
    · rw [hpp] at hq
      obtain rfl := List.mem_singleton.1 hq
      exact hX.good hA (q.toNat + 1) q.toNat (by omega) (by omega) hg
  have hev : evalE L (j : Int) T.length = 0 := eval_zero.2 ⟨hL, by omega, by omega, by rw [Int.toNat_natCast]; exact hgL⟩
  refine ⟨_, rfl, hev, ?_⟩
  have hxb := ev_blk (T := T) hA (show i.toNat < A.length by omega) k5
  rw [hx] at hxb
  rw [eval_val hev, Int.toNat_natCast, ev_eq (hL.2 j e2).1, e3]
  have e4 : ev L T i.toNat = x := by rw [hX.ev hA hL T (i.toNat + 1) i.toNat (by omega) (by omega)]; exact hx
  have e5 : stepE (ev L T) T (2 + p, i, 0) = ofB (partV x.2.2.1 p) := by
    unfold stepE
    rw [if_neg (by dsimp only; omega), if_neg (by dsimp only; omega)]
    dsimp only
    rw [e4, show 2 + p - 2 = p by omega]
  rw [e5]
  unfold partA
  rw [if_pos ⟨by rw [hxb]; exact mb_ofB, by rw [hxb]; rfl, p0, p2⟩, if_neg (by rw [hxb]; exact fun h => Bool.noConfusion h)]
  unfold mkO
  rw [if_pos ok_nil]
theorem stands_wrap {A : List Tm} {T : List Blk} {i k : Int} (he : evalE A i T.length = 0) (hf : evalE A k T.length = 0) {x y : Val} (hx : evalV A i T = x) (hy : evalV A k T = y) {z : Val} {L : List Tm} (hp : wrapA A (ofT i) (ofT k) = (z, L, 0)) :
    ∃ q, evalV L z.2.2.2.2 T = q ∧ evalE L z.2.2.2.2 T.length = 0 ∧ wrapA [] x y = (q, [], 0) ∧ unA L (ofT i) z = (ofT k, 0) ∧ unA [] x q = (y, 0) := by
  have hback := ((back (o := ofT i) hp).2 rfl).2.1
  obtain ⟨hA, h0, h1, hg⟩ := eval_zero.1 he
  obtain ⟨_, k0, k1, hgk⟩ := eval_zero.1 hf
  rw [eval_val he] at hx
  rw [eval_val hf] at hy
  obtain ⟨_, hm, hs, hs2⟩ := wrap_err0 (A := A) (k := ofT i) (v := ofT k) (by rw [hp])
  unfold wrapA at hp
  rw [if_pos ⟨hm, hs, hs2⟩, if_pos (show (ofT i).1 = true from rfl)] at hp
  obtain ⟨hL, hX, j, rfl, e2, e3⟩ := made_there hp
  show ∃ q, evalV L (j : Int) T = q ∧ evalE L (j : Int) T.length = 0 ∧ _
  change at_ L j = (5, i, k) at e3
  have i5 : ¬ (at_ A i.toNat).1 = 5 := by rw [sld_kind h0] at hs; exact of_decide_eq_false hs
  have k5 : ¬ (at_ A k.toNat).1 = 5 := by rw [sld_kind k0] at hs2; exact of_decide_eq_false hs2
  have hpp : parts (at_ L j) = [i, k] := by rw [e3]; unfold parts; rw [if_neg (by dsimp only; decide), if_pos rfl]
  have hgL : Good L T.length j := by
    refine Good.mk ?_ ?_ fun q hq => ?_
    · unfold usesS
      rw [hpp]
      simp only [List.any_cons, List.any_nil, Bool.or_false, Bool.or_eq_false_iff, decide_eq_false_iff_not]
      rw [hX.at (j := i.toNat) (by omega), hX.at (j := k.toNat) (by omega)]; exact ⟨i5, k5⟩
    · rw [e3]; unfold noBlk; dsimp only; rw [decide_eq_false (by decide)]; rfl
    · rw [hpp] at hq
      rcases List.mem_cons.1 hq with rfl | hq
      · exact hX.good hA (q.toNat + 1) q.toNat (by omega) (by omega) hg
      · obtain rfl := List.mem_singleton.1 hq
        exact hX.good hA (q.toNat + 1) q.toNat (by omega) (by omega) hgk
  have hev : evalE L (j : Int) T.length = 0 := eval_zero.2 ⟨hL, by omega, by omega, by rw [Int.toNat_natCast]; exact hgL⟩
  have hxb := ev_blk (T := T) hA (show i.toNat < A.length by omega) i5
  have hyb := ev_blk (T := T) hA (show k.toNat < A.length by omega) k5
  rw [hx] at hxb
  rw [hy] at hyb
  have e4 : ev L T i.toNat = x := by rw [hX.ev hA hL T (i.toNat + 1) i.toNat (by omega) (by omega)]; exact hx
  have e6 : ev L T k.toNat = y := by rw [hX.ev hA hL T (k.toNat + 1) k.toNat (by omega) (by omega)]; exact hy
  have e5 : evalV L (j : Int) T = ofS (wrap x.2.2.1 y.2.2.1) := by
    rw [eval_val hev, Int.toNat_natCast, ev_eq (hL.2 j e2).1, e3]
    unfold stepE
    rw [if_neg (by dsimp only; decide), if_pos rfl]
    dsimp only
    rw [e4, e6]
  have hwr : wrapA [] x y = (ofS (wrap x.2.2.1 y.2.2.1), [], 0) := by
    unfold wrapA
    rw [if_pos ⟨⟨by rw [hxb]; exact mb_ofB, by rw [hyb]; exact mb_ofB, by rw [hxb, hyb]; rfl⟩, by rw [hxb]; rfl, by rw [hyb]; rfl⟩, if_neg (by rw [hxb]; exact fun h => Bool.noConfusion h)]
    unfold mkO
    rw [if_pos ok_nil]
  exact ⟨_, e5, hev, hwr, hback, ((back (o := x) hwr).2 rfl).2.1⟩
theorem stands_un {A : List Tm} {T : List Blk} {i k : Int} (he : evalE A i T.length = 0) (hf : evalE A k T.length = 0) {x y : Val} (hx : evalV A i T = x) (hy : evalV A k T = y) {z : Val} (hp : unA A (ofT i) (ofT k) = (z, 0)) :
    ∃ q, evalV A z.2.2.2.2 T = q ∧ evalE A z.2.2.2.2 T.length = 0 ∧ unA [] x y = (q, 0) := by
  obtain ⟨hA, h0, h1, hg⟩ := eval_zero.1 he
  obtain ⟨_, k0, k1, hgk⟩ := eval_zero.1 hf
  rw [eval_val he] at hx
  rw [eval_val hf] at hy
  have hq := un_out (A := A) (k := ofT i) (v := ofT k) (.inl (by rw [hp]))
  unfold unA at hp
  rw [if_pos hq, if_pos (show (ofT i).1 = true from rfl)] at hp
  obtain ⟨_, _, hs, hs2⟩ := hq
  have i5 : ¬ (at_ A i.toNat).1 = 5 := by rw [sld_kind h0] at hs; exact of_decide_eq_false hs
  have k5 : (at_ A k.toNat).1 = 5 := by rw [sld_kind k0] at hs2; exact of_decide_eq_true hs2
  change (if (at_ A k.toNat).2.1 = i then (ofT (at_ A k.toNat).2.2, (0 : Int)) else (zV, 7)) = (z, 0) at hp
  by_cases ha : (at_ A k.toNat).2.1 = i
  · rw [if_pos ha] at hp
    simp only [Prod.mk.injEq] at hp
    obtain ⟨rfl, _⟩ := hp
    show ∃ q, evalV A (at_ A k.toNat).2.2 T = q ∧ evalE A (at_ A k.toNat).2.2 T.length = 0 ∧ _
    have hkl : k.toNat < A.length := by omega
    have hpp : parts (at_ A k.toNat) = [(at_ A k.toNat).2.1, (at_ A k.toNat).2.2] := by unfold parts; rw [if_neg (by omega), if_pos k5]
    have hpl := parts_lt hA hkl (p := (at_ A k.toNat).2.2) (by rw [hpp]; simp)
    have hgc := hgk.part (p := (at_ A k.toNat).2.2) (by rw [hpp]; simp)
    have hev : evalE A (at_ A k.toNat).2.2 T.length = 0 := eval_zero.2 ⟨hA, hpl.1, by omega, hgc⟩
    have c5 : ¬ (at_ A (at_ A k.toNat).2.2.toNat).1 = 5 := by
      have := (hgk k.toNat Rk.self).1
      unfold usesS at this
      rw [hpp] at this
      simp only [List.any_cons, List.any_nil, Bool.or_false, Bool.or_eq_false_iff, decide_eq_false_iff_not] at this
      exact this.2
    have hxb := ev_blk (T := T) hA (show i.toNat < A.length by omega) i5
    rw [hx] at hxb
    have hzb := ev_blk (T := T) hA (show (at_ A k.toNat).2.2.toNat < A.length by omega) c5
    obtain ⟨c, hc⟩ : ∃ c, ev A T (at_ A k.toNat).2.2.toNat = c := ⟨_, rfl⟩
    rw [hc] at hzb
    have hyv : y = ofS (wrap x.2.2.1 c.2.2.1) := by
      rw [← hy, ev_eq (hA.2 _ hkl).1]
      unfold stepE
      rw [if_neg (by omega), if_pos k5, ha, hx, hc]
    refine ⟨_, rfl, hev, ?_⟩
    rw [eval_val hev, hc]
    unfold unA
    rw [if_pos ⟨ok_nil, ⟨by rw [hxb]; exact mb_ofB, by rw [hyv]; exact mb_ofS, by rw [hxb, hyv]; rfl⟩, by rw [hxb]; rfl, by rw [hyv]; rfl⟩, if_neg (by rw [hxb]; exact fun h => Bool.noConfusion h), hyv]
    show (ofB (unV x.2.2.1 (wrap x.2.2.1 c.2.2.1)), unE x.2.2.1 (wrap x.2.2.1 c.2.2.1)) = (c, 0)
    rw [unV_wrap, unE_wrap, ← hzb]
  · rw [if_neg ha] at hp
    simp only [Prod.mk.injEq] at hp
    exact absurd hp.2 (by decide)
end M
end Go.Proofs.Ytljaahheofikpaa
