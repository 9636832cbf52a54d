/-
  Plain mathematics for the law ValueStands: what comes of what is made. No condition.
-/
import Derived.Test.YthmiekinjfaflaaGreatZLM
import Derived.Test.YthmiekinjfaflaaGreatZM3
import Derived.Test.YthmiekinjfaflaaGreatZNX
namespace Go.Proofs.YthmiekinjfaflaaGreat
namespace M
/-- nothing in it is made of what is sealed, and each atom has a block -/
def Good (A : List Tm) (n j : Nat) : Prop := ∀ k, Rk A j 0 k → usesS A (at_ A k) = false ∧ noBlk n (at_ A k) = false
theorem eval_zero {A : List Tm} {i : Int} {n : Nat} : evalE A i n = 0 ↔ Ok A ∧ 0 ≤ i ∧ i < (A.length : Int) ∧ Good A n i.toNat := by
  have key : ∀ (hA : Ok A) (h0 : 0 ≤ i) (h1 : i < (A.length : Int)), deepE A i = 0 ∧ ∀ x, x ∈ withinL A i ↔ ∃ k : Nat, Rk A i.toNat 0 k ∧ x = k := by
    intro hA h0 h1
    have ht : thr A i = true := thr_iff.2 ⟨hA, h0, h1⟩
    refine ⟨by unfold deepE; rw [if_pos ht], fun x => ?_⟩
    unfold withinL
    rw [if_pos ht, outL_mem]
    constructor
    · rintro ⟨j, hj, hr, rfl⟩
      exact ⟨j, (rkB_iff hA (by omega) (by omega)).1 hr, rfl⟩
    · rintro ⟨k, hr, rfl⟩
      exact ⟨k, by have := hr.le hA (by omega); omega, (rkB_iff hA (by omega) (by omega)).2 hr, rfl⟩
  constructor
  · intro h
    have hd : deepE A i = 0 := by
      unfold evalE at h
      by_cases hd : deepE A i = 0
      · exact hd
      · rw [if_neg hd] at h; exact h
    have ht : thr A i = true := by
      unfold deepE at hd
      by_cases ht : thr A i = true
      · exact ht
      · rw [if_neg ht] at hd; cases hd
    obtain ⟨hA, h0, h1⟩ := thr_iff.1 ht
    refine ⟨hA, h0, h1, fun k hk => ?_⟩
    have hm := ((key hA h0 h1).2 (k : Int)).2 ⟨k, hk, rfl⟩
    unfold evalE at h
    rw [if_pos hd] at h
    by_cases h2 : (withinL A i).any (fun k => usesS A (at_ A k.toNat)) = true
    · rw [if_pos h2] at h; cases h
    · rw [if_neg h2] at h
      by_cases h3 : (withinL A i).any (fun k => noBlk n (at_ A k.toNat)) = true
      · rw [if_pos h3] at h; cases h
      · have e2 := List.any_eq_false.1 (by simpa using h2) (k : Int) hm
        have e3 := List.any_eq_false.1 (by simpa using h3) (k : Int) hm
        rw [Int.toNat_natCast] at e2 e3
        exact ⟨by simpa using e2, by simpa using e3⟩
  · rintro ⟨hA, h0, h1, hg⟩
    obtain ⟨hd, hm⟩ := key hA h0 h1
    unfold evalE
    rw [if_pos hd, if_neg, if_neg]
    · rw [Bool.not_eq_true, List.any_eq_false]
      intro x hx
      obtain ⟨k, hk, rfl⟩ := (hm x).1 hx
      rw [Int.toNat_natCast, (hg k hk).2]; simp
    · rw [Bool.not_eq_true, List.any_eq_false]
      intro x hx
      obtain ⟨k, hk, rfl⟩ := (hm x).1 hx
      rw [Int.toNat_natCast, (hg k hk).1]; simp
theorem eval_val {A : List Tm} {i : Int} {T : List Blk} (h : evalE A i T.length = 0) : evalV A i T = ev A T i.toNat := if_pos h
theorem parts_lt {A : List Tm} (hA : Ok A) {j : Nat} (hj : j < A.length) {p : Int} (hp : p ∈ parts (at_ A j)) : 0 ≤ p ∧ p.toNat < j := by
  have := parts_ahead (hA.2 j hj).1 p hp
  omega
theorem Ext.ev {A L : List Tm} (hA : Ok A) (hL : Ok L) (hx : Ext A L) (T : List Blk) : ∀ (n j : Nat), j < n → j < A.length → ev L T j = ev A T j := by
  intro n
  induction n with
  | zero => intro j h; omega
  | succ n ih =>
    intro j hjn hj
    have hjL : j < L.length := by have := hx.1; omega
    rw [ev_eq (hL.2 j hjL).1, ev_eq (hA.2 j hj).1, hx.at hj]
    refine stepE_congr (fun p hp => ?_) (may_kinds (hA.2 j hj).1)
    have := parts_lt hA hj hp
    exact ih p.toNat (by omega) (by omega)
theorem Rk.from_parts {A : List Tm} {j k : Nat} (h : Rk A j 0 k) : k = j ∨ ∃ p ∈ parts (at_ A j), Rk A p.toNat 0 k := by
  refine h.ind (P := fun k => k = j ∨ ∃ p ∈ parts (at_ A j), Rk A p.toNat 0 k) (.inl rfl) fun a p _ hP _ hp => ?_
  rcases hP with rfl | ⟨q, hq, hr⟩
  · exact .inr ⟨p, hp, Rk.self⟩
  · exact .inr ⟨q, hq, hr.step (Nat.zero_le _) hp⟩
theorem Good.mk {A : List Tm} {n j : Nat} (h1 : usesS A (at_ A j) = false) (h2 : noBlk n (at_ A j) = false) (h3 : ∀ p ∈ parts (at_ A j), Good A n p.toNat) : Good A n j := fun k hk => by
  rcases hk.from_parts with rfl | ⟨p, hp, hr⟩
  · exact ⟨h1, h2⟩
  · exact h3 p hp k hr
theorem Good.part {A : List Tm} {n j : Nat} (h : Good A n j) {p : Int} (hp : p ∈ parts (at_ A j)) : Good A n p.toNat := fun k hk => by
  refine h k (hk.ind (P := fun k => Rk A j 0 k) (Rk.self.step (Nat.zero_le _) hp) fun a q _ ha _ hq => ha.step (Nat.zero_le _) hq)
theorem Ext.good {A L : List Tm} (hA : Ok A) (hx : Ext A L) {n : Nat} : ∀ (m j : Nat), j < m → j < A.length → Good A n j → Good L n j := by
  intro m
  induction m with
  | zero => intro j h; omega
  | succ m ih =>
    intro j hjm hj hg
    have e := hx.at hj
    obtain ⟨g1, g2⟩ := hg j Rk.self
    refine Good.mk ?_ (by rw [e]; exact g2) fun p hp => ?_
    · rw [e]
      unfold usesS at g1 ⊢
      rw [List.any_eq_false] at g1 ⊢
      intro p hp
      have := parts_lt hA hj hp
      rw [hx.at (by omega)]
      exact g1 p hp
    · rw [e] at hp
      have := parts_lt hA hj hp
      exact ih p.toNat (by omega) (by omega) (hg.part hp)
/-- what comes of a term that is not sealed is a block -/
theorem ev_blk {A : List Tm} {T : List Blk} (hA : Ok A) {j : Nat} (hj : j < A.length) (h5 : ¬ (at_ A j).1 = 5) : ev A T j = ofB (ev A T j).2.2.1 := by
  rw [ev_eq (hA.2 j hj).1]
  unfold stepE
  by_cases h1 : (at_ A j).1 = 1
  · rw [if_pos h1]; rfl
  · rw [if_neg h1, if_neg h5]; rfl
theorem sld_kind {A : List Tm} {i : Int} (h0 : 0 ≤ i) : sld A (ofT i) = decide ((at_ A i.toNat).1 = 5) := by
  have e : i = (i.toNat : Int) := by omega
  rw [e, sld_ofT, Int.toNat_natCast]
theorem ok_nil : Ok [] := ⟨by simp, fun i hi => absurd hi (by simp)⟩
theorem made_there {A : List Tm} {t : Tm} {x : Val} {L : List Tm} (h : mkT A t = (x, L, 0)) : Ok L ∧ Ext A L ∧ ∃ i : Nat, x = ofT i ∧ i < L.length ∧ at_ L i = t := by
  have he : makeE A t = 0 := by rw [← mkT_err, h]
  unfold mkT at h
  rw [if_pos he] at h
  simp only [Prod.mk.injEq] at h
  obtain ⟨rfl, rfl, _⟩ := h
  obtain ⟨i, e1, e2, e3, _⟩ := make_there he
  exact ⟨make_ok he, Ext.make he, i, by rw [e1], e2, e3⟩
theorem stands_part {A : List Tm} {T : List Blk} {i p : Int} (he : evalE A i T.length = 0) {x : Val} (hx : evalV A i T = x) {z : Val} {L : List Tm} (hp : partA A (ofT i) p = (z, L, 0)) :
    ∃ q, evalV L z.2.2.2.2 T = q ∧ evalE L z.2.2.2.2 T.length = 0 ∧ partA [] x p = (q, [], 0) := by
  obtain ⟨hA, h0, h1, hg⟩ := eval_zero.1 he
  rw [eval_val he] at hx
  obtain ⟨_, hm, hs, p0, p2⟩ := part_err0 (A := A) (v := ofT i) (i := p) (by rw [hp])
  unfold partA at hp
  rw [if_pos ⟨hm, hs, p0, p2⟩, if_pos (show (ofT i).1 = true from rfl)] at hp
  obtain ⟨hL, hX, j, rfl, e2, e3⟩ := made_there hp
  show ∃ q, evalV L (j : Int) T = q ∧ evalE L (j : Int) T.length = 0 ∧ partA [] x p = (q, [], 0)
  change at_ L j = (2 + p, i, 0) at e3
  have k5 : ¬ (at_ A i.toNat).1 = 5 := by
    rw [sld_kind h0] at hs; exact of_decide_eq_false hs
  have hpp : parts (at_ L j) = [i] := by rw [e3]; unfold parts; rw [if_pos (by dsimp only; omega)]
  have hgL : Good L T.length j := by
    refine Good.mk ?_ ?_ fun q hq => ?_
    · unfold usesS
      rw [hpp]
      simp only [List.any_cons, List.any_nil, Bool.or_false, decide_eq_false_iff_not]
      rw [hX.at (by omega)]; exact k5
    · rw [e3]; unfold noBlk; dsimp only; rw [decide_eq_false (by omega)]; rfl
    · rw [hpp] at hq
      obtain rfl := List.mem_singleton.1 hq
      exact hX.good hA (q.toNat + 1) q.toNat (by omega) (by omega) hg
  have hev : evalE L (j : Int) T.length = 0 := eval_zero.2 ⟨hL, by omega, by omega, by rw [Int.toNat_natCast]; exact hgL⟩
  refine ⟨_, rfl, hev, ?_⟩
  have hxb := ev_blk (T := T) hA (show i.toNat < A.length by omega) k5
  rw [hx] at hxb
  rw [eval_val hev, Int.toNat_natCast, ev_eq (hL.2 j e2).1, e3]
  have e4 : ev L T i.toNat = x := by rw [hX.ev hA hL T (i.toNat + 1) i.toNat (by omega) (by omega)]; exact hx
  have e5 : stepE (ev L T) T (2 + p, i, 0) = ofB (partV x.2.2.1 p) := by
    unfold stepE
    rw [if_neg (by dsimp only; omega), if_neg (by dsimp only; omega)]
    dsimp only
    rw [e4, show 2 + p - 2 = p by omega]
  rw [e5]
  unfold partA
  rw [if_pos ⟨by rw [hxb]; exact mb_ofB, by rw [hxb]; rfl, p0, p2⟩, if_neg (by rw [hxb]; exact fun h => Bool.noConfusion h)]
  unfold mkO
  rw [if_pos ok_nil]
theorem stands_wrap {A : List Tm} {T : List Blk} {i k : Int} (he : evalE A i T.length = 0) (hf : evalE A k T.length = 0) {x y : Val} (hx : evalV A i T = x) (hy : evalV A k T = y) {z : Val} {L : List Tm} (hp : wrapA A (ofT i) (ofT k) = (z, L, 0)) :
    ∃ q, evalV L z.2.2.2.2 T = q ∧ evalE L z.2.2.2.2 T.length = 0 ∧ wrapA [] x y = (q, [], 0) ∧ unA L (ofT i) z = (ofT k, 0) ∧ unA [] x q = (y, 0) := by
  have hback := ((back (o := ofT i) hp).2 rfl).2.1
  obtain ⟨hA, h0, h1, hg⟩ := eval_zero.1 he
  obtain ⟨_, k0, k1, hgk⟩ := eval_zero.1 hf
  rw [eval_val he] at hx
  rw [eval_val hf] at hy
  obtain ⟨_, hm, hs, hs2⟩ := wrap_err0 (A := A) (k := ofT i) (v := ofT k) (by rw [hp])
  unfold wrapA at hp
  rw [if_pos ⟨hm, hs, hs2⟩, if_pos (show (ofT i).1 = true from rfl)] at hp
  obtain ⟨hL, hX, j, rfl, e2, e3⟩ := made_there hp
  show ∃ q, evalV L (j : Int) T = q ∧ evalE L (j : Int) T.length = 0 ∧ _
  change at_ L j = (5, i, k) at e3
  have i5 : ¬ (at_ A i.toNat).1 = 5 := by rw [sld_kind h0] at hs; exact of_decide_eq_false hs
  have k5 : ¬ (at_ A k.toNat).1 = 5 := by rw [sld_kind k0] at hs2; exact of_decide_eq_false hs2
  have hpp : parts (at_ L j) = [i, k] := by rw [e3]; unfold parts; rw [if_neg (by dsimp only; decide), if_pos rfl]
  have hgL : Good L T.length j := by
    refine Good.mk ?_ ?_ fun q hq => ?_
    · unfold usesS
      rw [hpp]
      simp only [List.any_cons, List.any_nil, Bool.or_false, Bool.or_eq_false_iff, decide_eq_false_iff_not]
      rw [hX.at (j := i.toNat) (by omega), hX.at (j := k.toNat) (by omega)]; exact ⟨i5, k5⟩
    · rw [e3]; unfold noBlk; dsimp only; rw [decide_eq_false (by decide)]; rfl
    · rw [hpp] at hq
      rcases List.mem_cons.1 hq with rfl | hq
      · exact hX.good hA (q.toNat + 1) q.toNat (by omega) (by omega) hg
      · obtain rfl := List.mem_singleton.1 hq
        exact hX.good hA (q.toNat + 1) q.toNat (by omega) (by omega) hgk
  have hev : evalE L (j : Int) T.length = 0 := eval_zero.2 ⟨hL, by omega, by omega, by rw [Int.toNat_natCast]; exact hgL⟩
  have hxb := ev_blk (T := T) hA (show i.toNat < A.length by omega) i5
  have hyb := ev_blk (T := T) hA (show k.toNat < A.length by omega) k5
  rw [hx] at hxb
  rw [hy] at hyb
  have e4 : ev L T i.toNat = x := by rw [hX.ev hA hL T (i.toNat + 1) i.toNat (by omega) (by omega)]; exact hx
  have e6 : ev L T k.toNat = y := by rw [hX.ev hA hL T (k.toNat + 1) k.toNat (by omega) (by omega)]; exact hy
  have e5 : evalV L (j : Int) T = ofS (wrap x.2.2.1 y.2.2.1) := by
    rw [eval_val hev, Int.toNat_natCast, ev_eq (hL.2 j e2).1, e3]
    unfold stepE
    rw [if_neg (by dsimp only; decide), if_pos rfl]
    dsimp only
    rw [e4, e6]
  have hwr : wrapA [] x y = (ofS (wrap x.2.2.1 y.2.2.1), [], 0) := by
    unfold wrapA
    rw [if_pos ⟨⟨by rw [hxb]; exact mb_ofB, by rw [hyb]; exact mb_ofB, by rw [hxb, hyb]; rfl⟩, by rw [hxb]; rfl, by rw [hyb]; rfl⟩, if_neg (by rw [hxb]; exact fun h => Bool.noConfusion h)]
    unfold mkO
    rw [if_pos ok_nil]
  exact ⟨_, e5, hev, hwr, hback, ((back (o := x) hwr).2 rfl).2.1⟩
theorem stands_un {A : List Tm} {T : List Blk} {i k : Int} (he : evalE A i T.length = 0) (hf : evalE A k T.length = 0) {x y : Val} (hx : evalV A i T = x) (hy : evalV A k T = y) {z : Val} (hp : unA A (ofT i) (ofT k) = (z, 0)) :
    ∃ q, evalV A z.2.2.2.2 T = q ∧ evalE A z.2.2.2.2 T.length = 0 ∧ unA [] x y = (q, 0) := by
  obtain ⟨hA, h0, h1, hg⟩ := eval_zero.1 he
  obtain ⟨_, k0, k1, hgk⟩ := eval_zero.1 hf
  rw [eval_val he] at hx
  rw [eval_val hf] at hy
  have hq := un_out (A := A) (k := ofT i) (v := ofT k) (.inl (by rw [hp]))
  unfold unA at hp
  rw [if_pos hq, if_pos (show (ofT i).1 = true from rfl)] at hp
  obtain ⟨_, _, hs, hs2⟩ := hq
  have i5 : ¬ (at_ A i.toNat).1 = 5 := by rw [sld_kind h0] at hs; exact of_decide_eq_false hs
  have k5 : (at_ A k.toNat).1 = 5 := by rw [sld_kind k0] at hs2; exact of_decide_eq_true hs2
  change (if (at_ A k.toNat).2.1 = i then (ofT (at_ A k.toNat).2.2, (0 : Int)) else (zV, 7)) = (z, 0) at hp
  by_cases ha : (at_ A k.toNat).2.1 = i
  · rw [if_pos ha] at hp
    simp only [Prod.mk.injEq] at hp
    obtain ⟨rfl, _⟩ := hp
    show ∃ q, evalV A (at_ A k.toNat).2.2 T = q ∧ evalE A (at_ A k.toNat).2.2 T.length = 0 ∧ _
    have hkl : k.toNat < A.length := by omega
    have hpp : parts (at_ A k.toNat) = [(at_ A k.toNat).2.1, (at_ A k.toNat).2.2] := by unfold parts; rw [if_neg (by omega), if_pos k5]
    have hpl := parts_lt hA hkl (p := (at_ A k.toNat).2.2) (by rw [hpp]; simp)
    have hgc := hgk.part (p := (at_ A k.toNat).2.2) (by rw [hpp]; simp)
    have hev : evalE A (at_ A k.toNat).2.2 T.length = 0 := eval_zero.2 ⟨hA, hpl.1, by omega, hgc⟩
    have c5 : ¬ (at_ A (at_ A k.toNat).2.2.toNat).1 = 5 := by
      have := (hgk k.toNat Rk.self).1
      unfold usesS at this
      rw [hpp] at this
      simp only [List.any_cons, List.any_nil, Bool.or_false, Bool.or_eq_false_iff, decide_eq_false_iff_not] at this
      exact this.2
    have hxb := ev_blk (T := T) hA (show i.toNat < A.length by omega) i5
    rw [hx] at hxb
    have hzb := ev_blk (T := T) hA (show (at_ A k.toNat).2.2.toNat < A.length by omega) c5
    obtain ⟨c, hc⟩ : ∃ c, ev A T (at_ A k.toNat).2.2.toNat = c := ⟨_, rfl⟩
    rw [hc] at hzb
    have hyv : y = ofS (wrap x.2.2.1 c.2.2.1) := by
      rw [← hy, ev_eq (hA.2 _ hkl).1]
      unfold stepE
      rw [if_neg (by omega), if_pos k5, ha, hx, hc]
    refine ⟨_, rfl, hev, ?_⟩
    rw [eval_val hev, hc]
    unfold unA
    rw [if_pos ⟨ok_nil, ⟨by rw [hxb]; exact mb_ofB, by rw [hyv]; exact mb_ofS, by rw [hxb, hyv]; rfl⟩, by rw [hxb]; rfl, by rw [hyv]; rfl⟩, if_neg (by rw [hxb]; exact fun h => Bool.noConfusion h), hyv]
    show (ofB (unV x.2.2.1 (wrap x.2.2.1 c.2.2.1)), unE x.2.2.1 (wrap x.2.2.1 c.2.2.1)) = (c, 0)
    rw [unV_wrap, unE_wrap, ← hzb]
  · rw [if_neg ha] at hp
    simp only [Prod.mk.injEq] at hp
    exact absurd hp.2 (by decide)
end M
end Go.Proofs.YthmiekinjfaflaaGreat
namespace Go.Proofs.YthmiekinjfaflaaGreat
namespace M
def kB (k : Int) : Bool := decide (1 ≤ k) && decide (k ≤ 3)
def myE (h k I J : Int) : Int := if kB k && subB h I J then 0 else 1
def myV (h k I J : Int) : Bool := kB k && subB h I J && (if k = 1 then decide (J = 0) else if k = 2 then !decide (J = 0) || decide (I = 1) else useB h I J)
theorem kB_of {k : Int} (hk : kB k = true) : k = 1 ∨ k = 2 ∨ k = 3 := by
  unfold kB at hk
  simp only [Bool.and_eq_true, decide_eq_true_eq] at hk
  omega
end M
end Go.Proofs.YthmiekinjfaflaaGreat
namespace Go.Proofs.YthmiekinjfaflaaGreat
namespace M
/-- a value may be with terms, and is not sealed -/
def opn (A : List Tm) (v : Val) : Bool := decide (Ok A) && mb A v && !sld A v
def wkR : List Int → List Tm → Val → Ans
  | [], A, v => (v, A, 0)
  | s :: S, A, v => if (partA A v s).2.2 = 0 then wkR S (partA A v s).2.1 (partA A v s).1 else (zV, [], (partA A v s).2.2)
def sdB (S : List Int) : Bool := decide (S.length ≤ 32) && S.all fun s => decide (s = 0 ∨ s = 1)
def walkA (A : List Tm) (v : Val) (S : List Int) : Ans := if opn A v && sdB S then wkR S A v else (zV, [], 1)
def nodeA (A : List Tm) (h : Int) (m : Val) (n : Int) : Ans := if okB h n && opn A m then wkR (pathL 1 n) A m else (zV, [], 1)
/-- and then a part, or a walk -/
def andP (r : Ans) (i : Int) : Ans := if r.2.2 = 0 then partA r.2.1 r.1 i else (zV, [], r.2.2)
def andW (r : Ans) (S : List Int) : Ans := if r.2.2 = 0 then wkR S r.2.1 r.1 else (zV, [], r.2.2)
def sidesL (I J : Int) : List Int := if J = 0 then [] else pathL I J
def labA (A : List Tm) (h : Int) (m : Val) (I J : Int) : Ans := if subB h I J && opn A m then andW (andP (nodeA A h m I) 2) (sidesL I J) else (zV, [], 1)
def keyA (A : List Tm) (h k : Int) (m : Val) (I J : Int) : Ans := if kB k && subB h I J && myV h k I J && opn A m then (if k = 1 then labA A h m I J else andP (labA A h m I J) 2) else (zV, [], 1)
theorem opn_iff {A : List Tm} {v : Val} : opn A v = true ↔ Ok A ∧ mb A v = true ∧ sld A v = false := by
  unfold opn
  rw [Bool.and_eq_true, Bool.and_eq_true, decide_eq_true_iff, Bool.not_eq_true']
  exact and_assoc
theorem sdB_iff {S : List Int} : sdB S = true ↔ S.length ≤ 32 ∧ ∀ s ∈ S, s = 0 ∨ s = 1 := by
  unfold sdB
  rw [Bool.and_eq_true, decide_eq_true_iff, List.all_eq_true]
  simp
/-! ### paths -/
theorem pathL_bit {a b : Int} : ∀ s ∈ pathL a b, s = 0 ∨ s = 1 := by
  intro s hs
  unfold pathL at hs
  obtain ⟨k, -, rfl⟩ := List.mem_map.1 hs
  omega
theorem pathL_nil {a b : Int} (h : dep b ≤ dep a) : pathL a b = [] := by
  unfold pathL
  rw [show (dep b - dep a).toNat = 0 by omega]
  rfl
theorem pathL_snoc {a n s : Int} (hn : 1 ≤ n) (hs : s = 0 ∨ s = 1) (hd : dep a ≤ dep n) : pathL a (2 * n + s) = pathL a n ++ [s] := by
  have hc := child_dep hn hs
  have ha := dep_nonneg a
  have h1 : up (2 * n + s) (dep n) = n := by
    have := @up_one (2 * n + s)
    rw [hc, show dep n + 1 - 1 = dep n by omega] at this
    rw [this]; omega
  have h2 : up (2 * n + s) (dep n + 1) = 2 * n + s := by rw [← hc]; exact up_self _
  unfold pathL
  rw [hc, show (dep n + 1 - dep a).toNat = (dep n - dep a).toNat + 1 by omega, List.range_succ, List.map_append]
  congr 1
  · refine List.map_congr_left fun k hk => ?_
    have := List.mem_range.1 hk
    have := up_up (n := 2 * n + s) (d := dep n) (e := dep a + k + 1) (by omega) (by omega) (by omega) (by omega)
    rw [h1] at this
    rw [this]
  · simp only [List.map_cons, List.map_nil]
    rw [show dep a + ((dep n - dep a).toNat : Int) + 1 = dep n + 1 by omega, h2]
    congr 1; omega
theorem abv_half {a b : Int} (hb : 1 ≤ b) (h : abv a b = true) (hd : dep a < dep b) : 1 ≤ b / 2 ∧ abv a (b / 2) = true ∧ dep (b / 2) = dep b - 1 ∧ b = 2 * (b / 2) + b % 2 := by
  have ha := dep_nonneg a
  have hu := @up_one b
  have h2 := up_dep hb (show 0 ≤ dep b - 1 by omega) (by omega)
  have h3 := up_pos hb (show 0 ≤ dep b - 1 by omega) (by omega)
  rw [hu] at h2 h3
  refine ⟨h3, ?_, h2, by omega⟩
  rw [abv_iff] at h ⊢
  refine ⟨by omega, ?_⟩
  have := up_up hb ha (show dep a ≤ dep b - 1 by omega) (by omega)
  rw [hu] at this
  rw [this]; exact h.2
theorem pathL_fold {a : Int} : ∀ (k : Nat) (b : Int), 1 ≤ b → abv a b = true → dep b - dep a = k → (pathL a b).foldl (fun n s => 2 * n + s) a = b
  | 0, b, _, h, hk => by
    rw [pathL_nil (by omega)]
    rw [abv_iff] at h
    show a = b
    rw [← h.2, show dep a = dep b by omega, up_self]
  | k + 1, b, hb, h, hk => by
    obtain ⟨h1, h2, h3, h4⟩ := abv_half hb h (by omega)
    have h5 := (abv_iff.1 h2).1
    have := pathL_fold k (b / 2) h1 h2 (by omega)
    have hp := pathL_snoc (a := a) h1 (show b % 2 = 0 ∨ b % 2 = 1 by omega) h5
    rw [← h4] at hp
    rw [hp, List.foldl_append, this]
    show 2 * (b / 2) + b % 2 = b
    omega
theorem pathL_inj {a b c : Int} (hb : 1 ≤ b) (hc : 1 ≤ c) (h1 : abv a b = true) (h2 : abv a c = true) (h : pathL a b = pathL a c) : b = c := by
  have d1 := (abv_iff.1 h1).1
  have d2 := (abv_iff.1 h2).1
  rw [← pathL_fold (dep b - dep a).toNat b hb h1 (by omega), ← pathL_fold (dep c - dep a).toNat c hc h2 (by omega), h]
theorem dep_one : dep 1 = 0 := by decide +kernel
theorem abv_root {n : Int} (hn : 1 ≤ n) : abv 1 n = true := by
  rw [abv_iff, dep_one]
  have := dep_nonneg n
  have := (up_bd hn (Int.le_refl 0) this)
  rw [p2_zero] at this
  exact ⟨dep_nonneg n, by omega⟩
theorem path_sd {h a n : Int} (hk : okB h n = true) : sdB (pathL a n) = true := by
  obtain ⟨k1, k2, -, -⟩ := ok_of hk
  have := (ok_dep hk).2
  have := dep_nonneg a
  exact sdB_iff.2 ⟨by rw [pathL_length]; omega, pathL_bit⟩
theorem sides_sd {h I J : Int} (hs : subB h I J = true) : sdB (sidesL I J) = true := by
  unfold sidesL
  by_cases hJ : J = 0
  · rw [if_pos hJ]; rfl
  · rw [if_neg hJ]; exact path_sd (sub_in hs hJ).1
theorem sides_inj {h I J K : Int} (hs : subB h I J = true) (ht : subB h I K = true) (he : sidesL I J = sidesL I K) : J = K := by
  have key : ∀ {J : Int}, subB h I J = true → J ≠ 0 → 1 ≤ (pathL I J).length := fun hs hJ => by
    obtain ⟨_, _, _, d, _⟩ := sub_in hs hJ
    rw [pathL_length]; omega
  unfold sidesL at he
  by_cases hJ : J = 0
  · by_cases hK : K = 0
    · rw [hJ, hK]
    · rw [if_pos hJ, if_neg hK] at he
      have := key ht hK
      rw [← he] at this
      exact absurd this (by simp)
  · by_cases hK : K = 0
    · rw [if_neg hJ, if_pos hK] at he
      have := key hs hJ
      rw [he] at this
      exact absurd this (by simp)
    · rw [if_neg hJ, if_neg hK] at he
      obtain ⟨a1, a2, _⟩ := sub_in hs hJ
      obtain ⟨b1, b2, _⟩ := sub_in ht hK
      exact pathL_inj (ok_of a1).2.2.1 (ok_of b1).2.2.1 a2 b2 he
/-! ### walks -/
theorem part_err {A : List Tm} {v : Val} {i : Int} (h : ¬ (partA A v i).2.2 = 0) : partA A v i = (zV, [], (partA A v i).2.2) := by
  unfold partA at h ⊢
  by_cases hp : PartOk A v i
  · rw [if_pos hp] at h ⊢
    by_cases hs : v.1 = true
    · rw [if_pos hs] at h ⊢
      rw [mkT_err] at h ⊢
      unfold mkT
      rw [if_neg h]
    · rw [if_neg hs] at h ⊢
      unfold mkO at h ⊢
      by_cases hA : Ok A
      · rw [if_pos hA] at h; exact absurd rfl h
      · rw [if_neg hA]
  · rw [if_neg hp]
theorem wkR_err : ∀ (S : List Int) {A : List Tm} {v : Val}, ¬ (wkR S A v).2.2 = 0 → wkR S A v = (zV, [], (wkR S A v).2.2)
  | [], _, _, h => absurd rfl h
  | s :: S, A, v, h => by
    unfold wkR at h ⊢
    by_cases he : (partA A v s).2.2 = 0
    · rw [if_pos he] at h ⊢; exact wkR_err S h
    · rw [if_neg he]
theorem wkR_append : ∀ (S T : List Int) {A : List Tm} {v : Val}, wkR (S ++ T) A v = andW (wkR S A v) T
  | [], T, A, v => by show wkR T A v = andW (v, A, 0) T; unfold andW; rw [if_pos rfl]
  | s :: S, T, A, v => by
    show wkR (s :: (S ++ T)) A v = _
    unfold wkR
    by_cases he : (partA A v s).2.2 = 0
    · rw [if_pos he, if_pos he]; exact wkR_append S T
    · rw [if_neg he, if_neg he]; unfold andW; rw [if_neg he]
theorem wkR_one {A : List Tm} {v : Val} {s : Int} : wkR [s] A v = partA A v s := by
  unfold wkR
  by_cases he : (partA A v s).2.2 = 0
  · rw [if_pos he]
    show ((partA A v s).1, (partA A v s).2.1, (0 : Int)) = _
    rw [← he]
  · rw [if_neg he]; exact (part_err he).symm
theorem andW_one {r : Ans} {s : Int} : andW r [s] = andP r s := by unfold andW andP; rw [wkR_one]
theorem andW_append {r : Ans} {S T : List Int} : andW r (S ++ T) = andW (andW r S) T := by
  show andW r (S ++ T) = _
  unfold andW
  by_cases he : r.2.2 = 0
  · rw [if_pos he, wkR_append, if_pos he]; rfl
  · rw [if_neg he, if_neg he, if_neg he]
theorem andW_nil {r : Ans} (hr : ¬ r.2.2 = 0 → r = (zV, [], r.2.2)) : andW r [] = r := by
  unfold andW
  by_cases he : r.2.2 = 0
  · rw [if_pos he]; show (r.1, r.2.1, (0 : Int)) = r; rw [← he]
  · rw [if_neg he]; exact (hr he).symm
/-- one walk for all: a label is what one comes to by the path to I, the side 2, and the path on to J -/
theorem lab_walk {A : List Tm} {h : Int} {m : Val} {I J : Int} (hs : subB h I J = true) (hm : opn A m = true) : labA A h m I J = wkR (pathL 1 I ++ 2 :: sidesL I J) A m := by
  have hI := (sub_of hs).1
  unfold labA nodeA
  rw [hs, hm, hI]
  show andW (andP (wkR (pathL 1 I) A m) 2) (sidesL I J) = _
  rw [← andW_one, ← wkR_append, ← wkR_append, List.append_assoc]
  rfl
theorem key_walk {A : List Tm} {h k : Int} {m : Val} {I J : Int} (hk : kB k = true) (hs : subB h I J = true) (hy : myV h k I J = true) (hm : opn A m = true) : keyA A h k m I J = wkR (pathL 1 I ++ 2 :: sidesL I J ++ (if k = 1 then [] else [2])) A m := by
  unfold keyA
  rw [hk, hs, hy, hm]
  show (if k = 1 then _ else _) = _
  rw [lab_walk hs hm]
  by_cases h1 : k = 1
  · rw [if_pos h1, if_pos h1, List.append_nil]
  · rw [if_neg h1, if_neg h1, ← andW_one, ← wkR_append]
/-! ### what is told is open -/
def Opn3 (S : List Int) : Prop := ∀ s ∈ S, 0 ≤ s ∧ s ≤ 2
theorem opn3_path {a b : Int} : Opn3 (pathL a b) := fun s hs => by have := pathL_bit s hs; omega
theorem opn3_sides {I J : Int} : Opn3 (sidesL I J) := by
  unfold sidesL
  split
  · intro s hs; cases hs
  · exact opn3_path
theorem opn3_lab {I J : Int} : Opn3 (pathL 1 I ++ 2 :: sidesL I J) := fun s hs => by
  rcases List.mem_append.1 hs with h | h
  · exact opn3_path s h
  · rcases List.mem_cons.1 h with rfl | h
    · omega
    · exact opn3_sides s h
theorem opn3_key {I J k : Int} : Opn3 (pathL 1 I ++ 2 :: sidesL I J ++ (if k = 1 then [] else [2])) := fun s hs => by
  rcases List.mem_append.1 hs with h | h
  · exact opn3_lab s h
  · by_cases h1 : k = 1
    · rw [if_pos h1] at h; cases h
    · rw [if_neg h1] at h
      have := List.mem_singleton.1 h
      omega
theorem part_step {A : List Tm} {v : Val} {i : Int} (ho : opn A v = true) (h0 : 0 ≤ i) (h2 : i ≤ 2) {z : Val} {L : List Tm} (h : partA A v i = (z, L, 0)) :
    opn L z = true ∧ Ext A L ∧ L.length ≤ A.length + 1 ∧ z.1 = v.1 ∧ (v.1 = true → ∃ y : Nat, z = ofT y ∧ y < L.length ∧ at_ L y = (2 + i, v.2.2.2.2, 0)) ∧ (v.1 = false → L = A ∧ z = ofB (partV v.2.2.1 i)) := by
  obtain ⟨hA, hm, hl⟩ := opn_iff.1 ho
  unfold partA at h
  rw [if_pos ⟨hm, hl, h0, h2⟩] at h
  cases hs : v.1 with
  | true =>
    rw [if_pos hs] at h
    have he : makeE A (2 + i, v.2.2.2.2, 0) = 0 := by rw [← mkT_err, h]
    unfold mkT at h
    rw [if_pos he] at h
    simp only [Prod.mk.injEq] at h
    obtain ⟨rfl, rfl, _⟩ := h
    obtain ⟨y, e1, e2, e3, _⟩ := make_there he
    rw [e1]
    refine ⟨opn_iff.2 ⟨make_ok he, mb_ofT e2, ?_⟩, Ext.make he, (make_len he).2.1, rfl, fun _ => ⟨y, rfl, e2, e3⟩, fun h => by cases h⟩
    rw [sld_ofT, e3]
    exact decide_eq_false (by show ¬ 2 + i = 5; omega)
  | false =>
    rw [if_neg (by rw [hs]; decide)] at h
    unfold mkO at h
    rw [if_pos hA] at h
    simp only [Prod.mk.injEq] at h
    obtain ⟨rfl, rfl, _⟩ := h
    refine ⟨opn_iff.2 ⟨hA, mb_ofB, ?_⟩, Ext.self _, by omega, rfl, fun h => (by cases h), fun _ => ⟨rfl, rfl⟩⟩
    unfold sld ofB; rfl
theorem Ext.trans {A B C : List Tm} (h1 : Ext A B) (h2 : Ext B C) : Ext A C := by
  refine ⟨Nat.le_trans h1.1 h2.1, ?_⟩
  have := congrArg (List.take A.length) h2.2
  rw [List.take_take, Nat.min_eq_left h1.1, h1.2] at this
  exact this
/-- in a list of terms x is where one comes from v by parts -/
def Wk (A : List Tm) : List Int → Int → Int → Prop
  | [], v, x => x = v
  | s :: S, v, x => ∃ y : Nat, y < A.length ∧ at_ A y = (2 + s, v, 0) ∧ Wk A S y x
theorem Wk.ext {A L : List Tm} (hx : Ext A L) : ∀ {S : List Int} {v x : Int}, Wk A S v x → Wk L S v x
  | [], _, _, h => h
  | _ :: _, _, _, ⟨y, h1, h2, h3⟩ => ⟨y, Nat.lt_of_lt_of_le h1 hx.1, by rw [hx.at h1]; exact h2, Wk.ext hx h3⟩
theorem Wk.uniq {A : List Tm} (hA : Ok A) : ∀ {S : List Int} {v x z : Int}, Wk A S v x → Wk A S v z → x = z
  | [], _, _, _, h, g => by rw [show _ = _ from h, show _ = _ from g]
  | _ :: _, _, _, _, ⟨y, h1, h2, h3⟩, ⟨u, g1, g2, g3⟩ => by
    obtain rfl := hA.inj h1 g1 (h2.trans g2.symm)
    exact Wk.uniq hA h3 g3
theorem Wk.snoc {A : List Tm} {s : Int} : ∀ {S : List Int} {v x : Int}, Wk A (S ++ [s]) v x → ∃ z, Wk A S v z ∧ ∃ y : Nat, y < A.length ∧ at_ A y = (2 + s, z, 0) ∧ x = y
  | [], v, _, ⟨y, h1, h2, h3⟩ => ⟨v, rfl, y, h1, h2, h3⟩
  | _ :: _, _, _, ⟨u, h1, h2, h3⟩ => by
    obtain ⟨z, g1, g2⟩ := Wk.snoc h3
    exact ⟨z, ⟨u, h1, h2, g1⟩, g2⟩
theorem Wk.apart {A : List Tm} (hA : Ok A) {i : Nat} (hi : (at_ A i).1 = 1) : ∀ (n : Nat) (S T : List Int), S.length ≤ n → Opn3 S → Opn3 T → ∀ x, Wk A S i x → Wk A T i x → S = T
  | n, S, T, hn, oS, oT, x, hS, hT => by
    rcases List.eq_nil_or_concat S with rfl | ⟨S', s, rfl⟩
    · rcases List.eq_nil_or_concat T with rfl | ⟨T', t, rfl⟩
      · rfl
      · rw [List.concat_eq_append] at hT oT
        obtain ⟨z, _, y, g1, g2, g3⟩ := Wk.snoc hT
        have hx : x = (i : Int) := hS
        have hy : y = i := by omega
        rw [hy] at g2
        rw [g2] at hi
        have := oT t (by simp)
        have : 2 + t = 1 := hi
        omega
    · rw [List.concat_eq_append] at hS oS hn
      obtain ⟨z, f0, y, f1, f2, f3⟩ := Wk.snoc hS
      rcases List.eq_nil_or_concat T with rfl | ⟨T', t, rfl⟩
      · have hx : x = (i : Int) := hT
        have hy : y = i := by omega
        rw [hy] at f2
        rw [f2] at hi
        have := oS s (by simp)
        have : 2 + s = 1 := hi
        omega
      · rw [List.concat_eq_append] at hT oT
        obtain ⟨u, g0, q, g1, g2, g3⟩ := Wk.snoc hT
        have hq : y = q := by omega
        subst hq
        rw [f2] at g2
        simp only [Prod.mk.injEq] at g2
        obtain ⟨e1, e2, _⟩ := g2
        subst e2
        cases n with
        | zero => simp at hn
        | succ n =>
          have := Wk.apart hA hi n S' T' (by simp at hn; omega) (fun s hs => oS s (by simp [hs])) (fun s hs => oT s (by simp [hs])) z f0 g0
          rw [List.concat_eq_append, List.concat_eq_append, this, show s = t by omega]
theorem wkR_facts : ∀ (S : List Int) {A : List Tm} {v : Val}, opn A v = true → Opn3 S → ∀ {z : Val} {L : List Tm}, wkR S A v = (z, L, 0) →
    opn L z = true ∧ Ext A L ∧ L.length ≤ A.length + S.length ∧ z.1 = v.1 ∧ (v.1 = true → Wk L S v.2.2.2.2 z.2.2.2.2) ∧ (v.1 = false → L = A)
  | [], A, v, ho, _, z, L, h => by
    unfold wkR at h
    simp only [Prod.mk.injEq] at h
    obtain ⟨rfl, rfl, _⟩ := h
    exact ⟨ho, Ext.self _, by simp, rfl, fun _ => rfl, fun _ => rfl⟩
  | s :: S, A, v, ho, oS, z, L, h => by
    unfold wkR at h
    by_cases he : (partA A v s).2.2 = 0
    · rw [if_pos he] at h
      obtain ⟨⟨x, B, e⟩, hq⟩ : ∃ q, partA A v s = q := ⟨_, rfl⟩
      rw [hq] at he h
      have he : e = 0 := he
      subst he
      have h01 := oS s (by simp)
      obtain ⟨p1, p2, p3, p4, p5, p6⟩ := part_step ho h01.1 h01.2 hq
      obtain ⟨q1, q2, q3, q4, q5, q6⟩ := wkR_facts S p1 (fun t ht => oS t (by simp [ht])) h
      refine ⟨q1, p2.trans q2, by simp only [List.length_cons]; omega, by rw [q4, p4], fun hs => ?_, fun hs => ?_⟩
      · obtain ⟨y, rfl, y1, y2⟩ := p5 hs
        exact ⟨y, Nat.lt_of_lt_of_le y1 q2.1, by rw [q2.at y1]; exact y2, q5 rfl⟩
      · rw [q6 (by rw [p4, hs]), (p6 hs).1]
    · rw [if_neg he] at h
      simp only [Prod.mk.injEq] at h
      exact absurd h.2.2 he
theorem wkR_small : ∀ (S : List Int) {A : List Tm} {v : Val}, opn A v = true → Opn3 S → A.length + S.length ≤ 60000 → (wkR S A v).2.2 = 0
  | [], _, _, _, _, _ => rfl
  | s :: S, A, v, ho, oS, hl => by
    obtain ⟨hA, hm, hd⟩ := opn_iff.1 ho
    have h01 := oS s (by simp)
    have he := part_ok hA (by omega) (show PartOk A v s from ⟨hm, hd, h01⟩)
    obtain ⟨⟨x, B, e⟩, hq⟩ : ∃ q, partA A v s = q := ⟨_, rfl⟩
    rw [hq] at he
    have he : e = 0 := he
    subst he
    obtain ⟨p1, p2, p3, p4, p5, p6⟩ := part_step ho h01.1 h01.2 hq
    unfold wkR
    rw [hq, if_pos rfl]
    simp only [List.length_cons] at hl
    exact wkR_small S p1 (fun t ht => oS t (by simp [ht])) (by dsimp only; omega)
end M
end Go.Proofs.YthmiekinjfaflaaGreat
namespace Go.Proofs.YthmiekinjfaflaaGreat
namespace M
theorem walk_err0 {A : List Tm} {v x : Val} {S : List Int} {L : List Tm} (h : walkA A v S = (x, L, 0)) : opn A v = true ∧ sdB S = true ∧ wkR S A v = (x, L, 0) := by
  unfold walkA at h
  cases ho : opn A v with
  | false => rw [ho] at h; cases h
  | true =>
    cases hs : sdB S with
    | false => rw [ho, hs] at h; cases h
    | true => rw [ho, hs] at h; exact ⟨rfl, rfl, h⟩
theorem walk_of {A : List Tm} {v : Val} {S : List Int} (ho : opn A v = true) (hs : sdB S = true) : walkA A v S = wkR S A v := by
  unfold walkA
  rw [ho, hs]; rfl
theorem sd_append {S T : List Int} (h : sdB (S ++ T) = true) : sdB S = true ∧ sdB T = true := by
  obtain ⟨h1, h2⟩ := sdB_iff.1 h
  rw [List.length_append] at h1
  exact ⟨sdB_iff.2 ⟨by omega, fun s hs => h2 s (List.mem_append_left _ hs)⟩, sdB_iff.2 ⟨by omega, fun s hs => h2 s (List.mem_append_right _ hs)⟩⟩
theorem sd_opn3 {S : List Int} (h : sdB S = true) : Opn3 S := fun s hs => by have := (sdB_iff.1 h).2 s hs; omega
theorem wkR_split {A : List Tm} {v x : Val} {S T : List Int} {L : List Tm} (h : wkR (S ++ T) A v = (x, L, 0)) : ∃ y B, wkR S A v = (y, B, 0) ∧ wkR T B y = (x, L, 0) := by
  rw [wkR_append] at h
  obtain ⟨⟨y, B, e⟩, hq⟩ : ∃ q, wkR S A v = q := ⟨_, rfl⟩
  rw [hq] at h
  unfold andW at h
  by_cases he : e = 0
  · subst he
    rw [if_pos rfl] at h
    exact ⟨y, B, hq, h⟩
  · rw [if_neg he] at h
    simp only [Prod.mk.injEq] at h
    exact absurd h.2.2 he
theorem walk_two {A : List Tm} {v x : Val} {S T : List Int} {L : List Tm} (h : walkA A v (S ++ T) = (x, L, 0)) : ∃ y B, walkA A v S = (y, B, 0) ∧ walkA B y T = (x, L, 0) := by
  obtain ⟨ho, hs, hw⟩ := walk_err0 h
  obtain ⟨h1, h2⟩ := sd_append hs
  obtain ⟨y, B, g1, g2⟩ := wkR_split hw
  have oB := (wkR_facts S ho (sd_opn3 h1) g1).1
  exact ⟨y, B, by rw [walk_of ho h1]; exact g1, by rw [walk_of oB h2]; exact g2⟩
theorem node_err0 {A : List Tm} {h n : Int} {m x : Val} {L : List Tm} (hx : nodeA A h m n = (x, L, 0)) : okB h n = true ∧ opn A m = true ∧ wkR (pathL 1 n) A m = (x, L, 0) := by
  unfold nodeA at hx
  cases hk : okB h n with
  | false => rw [hk] at hx; cases hx
  | true =>
    cases ho : opn A m with
    | false => rw [hk, ho] at hx; cases hx
    | true => rw [hk, ho] at hx; exact ⟨rfl, rfl, hx⟩
theorem node_of {A : List Tm} {h n : Int} {m : Val} (hk : okB h n = true) (ho : opn A m = true) : nodeA A h m n = wkR (pathL 1 n) A m := by
  unfold nodeA
  rw [hk, ho]; rfl
theorem node_zero {A : List Tm} {h n : Int} {m x : Val} {L : List Tm} {e : Int} (hx : nodeA A h m n = (x, L, e)) (he : ¬ e = 0) : x = zV := by
  unfold nodeA at hx
  by_cases hc : (okB h n && opn A m) = true
  · rw [if_pos hc] at hx
    have := wkR_err (pathL 1 n) (A := A) (v := m) (by rw [hx]; exact he)
    rw [hx] at this
    simp only [Prod.mk.injEq] at this
    exact this.1
  · rw [if_neg hc] at hx
    simp only [Prod.mk.injEq] at hx
    exact hx.1.symm
theorem path_len {h a n : Int} (hk : okB h n = true) : (pathL a n).length ≤ 32 := (sdB_iff.1 (path_sd (a := a) hk)).1
/-- a child's value is its father's, walked on by its side -/
theorem node_child {A : List Tm} {h n s : Int} {m x : Val} {L : List Tm} (hx : nodeA A h m n = (x, L, 0)) (hl : A.length ≤ 60) (hc : childE h n s = 0) : ∃ y B, nodeA A h m (2 * n + s) = (y, B, 0) ∧ walkA L x [s] = (y, B, 0) := by
  obtain ⟨hk, ho, hw⟩ := node_err0 hx
  obtain ⟨-, hs, hn, -⟩ := childE_zero hc
  have hk2 := ok_child hk hs hn
  have n1 := (ok_of hk).2.2.1
  have hp := pathL_snoc (a := 1) n1 hs (by rw [dep_one]; exact dep_nonneg n)
  have h0 := wkR_small (pathL 1 (2 * n + s)) ho opn3_path (by have := path_len (a := 1) hk2; omega)
  obtain ⟨⟨y, B, e⟩, hq⟩ : ∃ q, wkR (pathL 1 (2 * n + s)) A m = q := ⟨_, rfl⟩
  rw [hq] at h0
  have h0 : e = 0 := h0
  subst h0
  have oL := (wkR_facts _ ho opn3_path hw).1
  have hsd : sdB [s] = true := sdB_iff.2 ⟨by simp, fun t ht => by rw [List.mem_singleton.1 ht]; exact hs⟩
  refine ⟨y, B, by rw [node_of hk2 ho]; exact hq, ?_⟩
  rw [walk_of oL hsd]
  rw [hp, wkR_append, hw] at hq
  unfold andW at hq
  rw [if_pos rfl] at hq
  exact hq
/-! ### apart -/
theorem ok_atom {n : Int} (h0 : 0 ≤ n) (h1 : n ≤ 1048576) : Ok [(1, n, 0)] := by
  refine ⟨by simp, fun i hi => ?_⟩
  have : i = 0 := by simp at hi; exact hi
  subst this
  refine ⟨?_, rfl⟩
  show mayB (1, n, 0) _ = true
  unfold mayB
  simp
  exact ⟨h0, h1⟩
theorem opn_atom {n : Int} (h0 : 0 ≤ n) (h1 : n ≤ 1048576) : opn [(1, n, 0)] (ofT 0) = true :=
  opn_iff.2 ⟨ok_atom h0 h1, mb_ofT (i := 0) (by simp), by rw [show (0 : Int) = ((0 : Nat) : Int) from rfl, sld_ofT]; rfl⟩
theorem opn_ext {A L : List Tm} {v : Val} (hx : Ext A L) (hL : Ok L) (h : opn A v = true) : opn L v = true := by
  obtain ⟨-, hm, hl⟩ := opn_iff.1 h
  exact opn_iff.2 ⟨hL, hx.mbL hm, by rw [hx.sldL hm]; exact hl⟩
theorem apart_val {L : List Tm} (hL : Ok L) (h1 : (at_ L 0).1 = 1) {S T : List Int} (oS : Opn3 S) (oT : Opn3 T) {x y : Val} (ox : opn L x = true) (oy : opn L y = true) (sx : x.1 = true) (sy : y.1 = true) (wx : Wk L S 0 x.2.2.2.2) (wy : Wk L T 0 y.2.2.2.2) : x = y ↔ S = T := by
  have ex := mb_sym (opn_iff.1 ox).2.1 sx
  have ey := mb_sym (opn_iff.1 oy).2.1 sy
  constructor
  · rintro rfl
    exact Wk.apart hL (i := 0) h1 S.length S T (Nat.le_refl _) oS oT _ wx wy
  · rintro rfl
    rw [ex, ey, Wk.uniq hL wx wy]
theorem split2 : ∀ {S T p q : List Int}, (∀ s ∈ S, s ≠ 2) → (∀ s ∈ T, s ≠ 2) → S ++ 2 :: p = T ++ 2 :: q → S = T ∧ p = q
  | [], [], _, _, _, _, h => ⟨rfl, by cases h; rfl⟩
  | [], t :: T, _, _, _, hT, h => by cases h; exact absurd rfl (hT 2 (by simp))
  | s :: S, [], _, _, hS, _, h => by cases h; exact absurd rfl (hS 2 (by simp))
  | s :: S, t :: T, p, q, hS, hT, h => by
    rw [List.cons_append, List.cons_append, List.cons.injEq] at h
    obtain ⟨rfl, h⟩ := h
    obtain ⟨rfl, rfl⟩ := split2 (fun x hx => hS x (by simp [hx])) (fun x hx => hT x (by simp [hx])) h
    exact ⟨rfl, rfl⟩
theorem node_inj {h a b : Int} (ha : okB h a = true) (hb : okB h b = true) : pathL 1 a = pathL 1 b ↔ a = b :=
  ⟨fun e => pathL_inj (ok_of ha).2.2.1 (ok_of hb).2.2.1 (abv_root (ok_of ha).2.2.1) (abv_root (ok_of hb).2.2.1) e, fun e => by rw [e]⟩
theorem lab_inj {h I J K N : Int} (hs : subB h I J = true) (ht : subB h K N = true) : pathL 1 I ++ 2 :: sidesL I J = pathL 1 K ++ 2 :: sidesL K N ↔ (I = K ∧ J = N) := by
  constructor
  · intro e
    obtain ⟨e1, e2⟩ := split2 (fun s hs => by have := pathL_bit s hs; omega) (fun s hs => by have := pathL_bit s hs; omega) e
    have hI := (node_inj (sub_of hs).1 (sub_of ht).1).1 e1
    subst hI
    exact ⟨rfl, sides_inj hs ht e2⟩
  · rintro ⟨rfl, rfl⟩; rfl
theorem key_inj {h k I J K N : Int} (hs : subB h I J = true) (ht : subB h K N = true) : pathL 1 I ++ 2 :: sidesL I J ++ (if k = 1 then [] else [2]) = pathL 1 K ++ 2 :: sidesL K N ++ (if k = 1 then [] else [2]) ↔ (I = K ∧ J = N) := by
  rw [List.append_left_inj]
  exact lab_inj hs ht
theorem lab_err0 {A : List Tm} {h I J : Int} {m x : Val} {L : List Tm} (hx : labA A h m I J = (x, L, 0)) : subB h I J = true ∧ opn A m = true ∧ wkR (pathL 1 I ++ 2 :: sidesL I J) A m = (x, L, 0) := by
  have hx' := hx
  unfold labA at hx'
  cases hs : subB h I J with
  | false => rw [hs] at hx'; cases hx'
  | true =>
    cases ho : opn A m with
    | false => rw [hs, ho] at hx'; cases hx'
    | true => exact ⟨rfl, rfl, by rw [← lab_walk hs ho]; exact hx⟩
theorem key_err0 {A : List Tm} {h k I J : Int} {m x : Val} {L : List Tm} (hx : keyA A h k m I J = (x, L, 0)) : subB h I J = true ∧ myV h k I J = true ∧ opn A m = true ∧ wkR (pathL 1 I ++ 2 :: sidesL I J ++ (if k = 1 then [] else [2])) A m = (x, L, 0) := by
  have hx' := hx
  unfold keyA at hx'
  by_cases hc : (kB k && subB h I J && myV h k I J && opn A m) = true
  · have hc' := hc
    rw [Bool.and_eq_true, Bool.and_eq_true, Bool.and_eq_true] at hc'
    obtain ⟨⟨⟨h1, h2⟩, h3⟩, h4⟩ := hc'
    exact ⟨h2, h3, h4, by rw [← key_walk h1 h2 h3 h4]; exact hx⟩
  · rw [if_neg hc] at hx'; cases hx'
theorem lab_len {h I J : Int} (hs : subB h I J = true) : (pathL 1 I ++ 2 :: sidesL I J).length ≤ 65 := by
  have h1 := path_len (a := 1) (sub_of hs).1
  have h2 := (sdB_iff.1 (sides_sd hs)).1
  rw [List.length_append, List.length_cons]
  omega
theorem key_len {h k I J : Int} (hs : subB h I J = true) : (pathL 1 I ++ 2 :: sidesL I J ++ (if k = 1 then [] else [2])).length ≤ 66 := by
  have := lab_len hs
  rw [List.length_append]
  split
  · simp only [List.length_nil]; omega
  · simp only [List.length_cons, List.length_nil]; omega
/-- what is made of an atom, behind what was made of it before -/
theorem made_on {A L : List Tm} {S : List Int} {m z : Val} (hm : opn A m = true) (sm : m.1 = true) (oS : Opn3 S) (hw : wkR S A m = (z, L, 0)) : opn L z = true ∧ Ext A L ∧ L.length ≤ A.length + S.length ∧ z.1 = true ∧ Wk L S m.2.2.2.2 z.2.2.2.2 := by
  obtain ⟨h1, h2, h3, h4, h5, -⟩ := wkR_facts S hm oS hw
  exact ⟨h1, h2, h3, by rw [h4, sm], h5 sm⟩
theorem on_made {A L : List Tm} {S : List Int} {z : Val} (hA : opn A (ofT 0) = true) (oS : Opn3 S) (hw : wkR S A (ofT 0) = (z, L, 0)) : ∃ i : Int, z = ofT i ∧ opn L (ofT i) = true ∧ Ext A L ∧ Ok L ∧ opn L (ofT 0) = true ∧ Wk L S 0 i := by
  obtain ⟨h1, h2, -, h4, h5⟩ := made_on hA rfl oS hw
  have hL := (opn_iff.1 h1).1
  have e := mb_sym (opn_iff.1 h1).2.1 h4
  exact ⟨z.2.2.2.2, e, by rw [← e]; exact h1, h2, hL, opn_ext h2 hL hA, h5⟩
theorem on_later {A L : List Tm} {S : List Int} {i : Int} (hx : Ext A L) (hL : Ok L) (h : opn A (ofT i) = true) (hw : Wk A S 0 i) : opn L (ofT i) = true ∧ Wk L S 0 i := ⟨opn_ext hx hL h, hw.ext hx⟩
theorem apartT {L : List Tm} {n : Int} (hL : Ok L) (hx : Ext [(1, n, 0)] L) {S T : List Int} (oS : Opn3 S) (oT : Opn3 T) {i j : Int} (oi : opn L (ofT i) = true) (oj : opn L (ofT j) = true) (wi : Wk L S 0 i) (wj : Wk L T 0 j) : (i == j) = decide (S = T) := by
  have h1 : (at_ L 0).1 = 1 := by rw [hx.at (j := 0) (by simp)]; rfl
  have h := apart_val hL h1 oS oT oi oj rfl rfl wi wj
  have h2 : ofT i = ofT j ↔ i = j := ⟨fun e => congrArg (fun v => v.2.2.2.2) e, fun e => by rw [e]⟩
  rw [h2] at h
  rw [Bool.eq_iff_iff, decide_eq_true_iff, beq_iff_eq]
  exact h
theorem key_zero {A : List Tm} {h k I J : Int} {m x : Val} {L : List Tm} {e : Int} (hx : keyA A h k m I J = (x, L, e)) (he : ¬ e = 0) : x = zV := by
  unfold keyA at hx
  by_cases hc : (kB k && subB h I J && myV h k I J && opn A m) = true
  · have hc' := hc
    rw [Bool.and_eq_true, Bool.and_eq_true, Bool.and_eq_true] at hc'
    obtain ⟨⟨⟨h1, h2⟩, h3⟩, h4⟩ := hc'
    rw [if_pos hc, show (if k = 1 then labA A h m I J else andP (labA A h m I J) 2) = keyA A h k m I J by unfold keyA; rw [if_pos hc], key_walk h1 h2 h3 h4] at hx
    have := wkR_err _ (A := A) (v := m) (by rw [hx]; exact he)
    rw [hx] at this
    simp only [Prod.mk.injEq] at this
    exact this.1
  · rw [if_neg hc] at hx
    simp only [Prod.mk.injEq] at hx
    exact hx.1.symm
/-! ### what stands for what -/
theorem stands_walk {T : List Blk} : ∀ (S : List Int) {A : List Tm} {i : Int} {x : Val}, Opn3 S → opn A (ofT i) = true → evalE A i T.length = 0 → evalV A i T = x → ∀ {z : Val} {L : List Tm}, wkR S A (ofT i) = (z, L, 0) →
    ∃ q, evalV L z.2.2.2.2 T = q ∧ evalE L z.2.2.2.2 T.length = 0 ∧ wkR S [] x = (q, [], 0)
  | [], A, i, x, _, _, he, hx, z, L, h => by
    unfold wkR at h
    simp only [Prod.mk.injEq] at h
    obtain ⟨rfl, rfl, _⟩ := h
    exact ⟨x, hx, he, rfl⟩
  | s :: S, A, i, x, oS, ho, he, hx, z, L, h => by
    unfold wkR at h
    by_cases hp : (partA A (ofT i) s).2.2 = 0
    · rw [if_pos hp] at h
      obtain ⟨⟨y, B, e⟩, hq⟩ : ∃ q, partA A (ofT i) s = q := ⟨_, rfl⟩
      rw [hq] at hp h
      have hp : e = 0 := hp
      subst hp
      have h01 := oS s (by simp)
      obtain ⟨p1, -, -, -, p5, -⟩ := part_step ho h01.1 h01.2 hq
      obtain ⟨j, rfl, -, -⟩ := p5 rfl
      obtain ⟨q, g1, g2, g3⟩ := stands_part he hx hq
      obtain ⟨r, k1, k2, k3⟩ := stands_walk S (fun t ht => oS t (by simp [ht])) p1 g2 g1 h
      refine ⟨r, k1, k2, ?_⟩
      unfold wkR
      rw [g3, if_pos rfl]
      exact k3
    · rw [if_neg hp] at h
      simp only [Prod.mk.injEq] at h
      exact absurd h.2.2 hp
theorem opn_block (b : Blk) : opn [] (ofB b) = true := opn_iff.2 ⟨ok_nil, mb_ofB, rfl⟩
theorem eval_atom (b : Blk) : evalE [(1, 0, 0)] 0 [b].length = 0 ∧ evalV [(1, 0, 0)] 0 [b] = ofB b := by
  have hA := ok_atom (n := 0) (by omega) (by omega)
  have h0 : evalE [(1, 0, 0)] 0 [b].length = 0 := by
    refine eval_zero.2 ⟨hA, by omega, by simp, ?_⟩
    exact Good.mk rfl rfl (fun p hp => by cases hp)
  refine ⟨h0, ?_⟩
  rw [eval_val h0, show Int.toNat 0 = 0 from rfl, ev_eq (hA.2 0 (by simp)).1]
  rfl
theorem key_small {A : List Tm} {h k I J : Int} {m : Val} (hm : opn A m = true) (hl : A.length ≤ 60) : (keyA A h k m I J).2.2 = if myV h k I J = true then 0 else 1 := by
  by_cases hy : myV h k I J = true
  · have hy' := hy
    unfold myV at hy'
    rw [Bool.and_eq_true, Bool.and_eq_true] at hy'
    rw [key_walk hy'.1.1 hy'.1.2 hy hm, if_pos hy]
    exact wkR_small _ hm opn3_key (by have := key_len (k := k) hy'.1.2; omega)
  · rw [if_neg hy]
    unfold keyA
    rw [if_neg (by
      intro hc
      rw [Bool.and_eq_true, Bool.and_eq_true] at hc
      exact hy hc.1.2)]
theorem stands_all {b : Blk} {h k I J : Int} {x : Val} {L : List Tm} (hx : keyA [(1, 0, 0)] h k (ofT 0) I J = (x, L, 0)) :
    ∃ q y B z, evalV L x.2.2.2.2 [b] = q ∧ evalE L x.2.2.2.2 1 = 0 ∧ keyA [] h k (ofB b) I J = (q, [], 0) ∧ nodeA [(1, 0, 0)] h (ofT 0) I = (y, B, 0) ∧ nodeA [] h (ofB b) I = (z, [], 0) ∧ evalE B y.2.2.2.2 1 = 0 ∧ evalV B y.2.2.2.2 [b] = z := by
  obtain ⟨h1, h2, h3, h4⟩ := key_err0 hx
  obtain ⟨e1, e2⟩ := eval_atom b
  have hy' := h2
  unfold myV at hy'
  rw [Bool.and_eq_true, Bool.and_eq_true] at hy'
  obtain ⟨q, g1, g2, g3⟩ := stands_walk _ opn3_key h3 e1 e2 h4
  have hI := (sub_of h1).1
  have s0 := wkR_small (pathL 1 I) h3 opn3_path (by have := path_len (a := 1) hI; simp only [List.length_cons, List.length_nil]; omega)
  obtain ⟨⟨y, B, e⟩, hq⟩ : ∃ q, wkR (pathL 1 I) [(1, 0, 0)] (ofT 0) = q := ⟨_, rfl⟩
  rw [hq] at s0
  have s0 : e = 0 := s0
  subst s0
  obtain ⟨z, k1, k2, k3⟩ := stands_walk _ opn3_path h3 e1 e2 hq
  refine ⟨q, y, B, z, g1, g2, ?_, by rw [node_of hI h3]; exact hq, by rw [node_of hI (opn_block b)]; exact k3, k2, k1⟩
  rw [key_walk hy'.1.1 h1 h2 (opn_block b)]
  exact g3
/-! ### what is told may be -/
theorem wkR_okL {A L : List Tm} {v x : Val} {S : List Int} {n : Int} (ho : opn A v = true) (oS : Opn3 S) (h : wkR S A v = (x, L, n)) : Ok L := by
  by_cases hn : n = 0
  · subst hn
    exact (opn_iff.1 (wkR_facts S ho oS h).1).1
  · have := wkR_err S (A := A) (v := v) (by rw [h]; exact hn)
    rw [h] at this
    simp only [Prod.mk.injEq] at this
    rw [this.2.1]; exact ok_nil
theorem walk_okL {A L : List Tm} {v x : Val} {S : List Int} {n : Int} (h : walkA A v S = (x, L, n)) : Ok L := by
  by_cases hc : opn A v = true ∧ sdB S = true
  · rw [walk_of hc.1 hc.2] at h
    exact wkR_okL hc.1 (sd_opn3 hc.2) h
  · unfold walkA at h
    rw [if_neg (by rw [Bool.and_eq_true]; exact hc)] at h
    simp only [Prod.mk.injEq] at h
    rw [← h.2.1]; exact ok_nil
theorem node_okL {A L : List Tm} {h k : Int} {m x : Val} {n : Int} (hx : nodeA A h m k = (x, L, n)) : Ok L := by
  by_cases hc : (okB h k && opn A m) = true
  · have hc' := hc
    rw [Bool.and_eq_true] at hc'
    rw [node_of hc'.1 hc'.2] at hx
    exact wkR_okL hc'.2 opn3_path hx
  · unfold nodeA at hx
    rw [if_neg hc] at hx
    simp only [Prod.mk.injEq] at hx
    rw [← hx.2.1]; exact ok_nil
theorem lab_okL {A L : List Tm} {h I J : Int} {m x : Val} {n : Int} (hx : labA A h m I J = (x, L, n)) : Ok L := by
  by_cases hc : (subB h I J && opn A m) = true
  · have hc' := hc
    rw [Bool.and_eq_true] at hc'
    rw [lab_walk hc'.1 hc'.2] at hx
    exact wkR_okL hc'.2 opn3_lab hx
  · unfold labA at hx
    rw [if_neg hc] at hx
    simp only [Prod.mk.injEq] at hx
    rw [← hx.2.1]; exact ok_nil
theorem key_okL {A L : List Tm} {h k I J : Int} {m x : Val} {n : Int} (hx : keyA A h k m I J = (x, L, n)) : Ok L := by
  by_cases hc : (kB k && subB h I J && myV h k I J && opn A m) = true
  · have hc' := hc
    rw [Bool.and_eq_true, Bool.and_eq_true, Bool.and_eq_true] at hc'
    obtain ⟨⟨⟨h1, h2⟩, h3⟩, h4⟩ := hc'
    rw [key_walk h1 h2 h3 h4] at hx
    exact wkR_okL h4 opn3_key hx
  · unfold keyA at hx
    rw [if_neg hc] at hx
    simp only [Prod.mk.injEq] at hx
    rw [← hx.2.1]; exact ok_nil
/-! ### one step up -/
theorem sides_up {h I J : Int} (hs : subB h I J = true) (hJ : J ≠ 0) : subB h I (if J / 2 = I then 0 else J / 2) = true ∧ sidesL I J = sidesL I (if J / 2 = I then 0 else J / 2) ++ [J % 2] := by
  obtain ⟨a1, a2, a3, a4, -⟩ := sub_in hs hJ
  have hI := (sub_of hs).1
  have j1 := (ok_of a1).2.2.1
  obtain ⟨b1, b2, b3, b4⟩ := abv_half j1 a2 a4
  have hp := pathL_snoc (a := I) b1 (show J % 2 = 0 ∨ J % 2 = 1 by omega) (abv_iff.1 b2).1
  rw [← b4] at hp
  have hk2 : okB h (J / 2) = true := by
    have := up_dep j1 (show 0 ≤ dep J - 1 by have := dep_nonneg I; omega) (by omega)
    have := ok_up a1 (show 0 ≤ dep J - 1 by have := dep_nonneg I; omega) (by omega)
    rwa [up_one] at this
  have e : sidesL I J = pathL I J := by unfold sidesL; rw [if_neg hJ]
  by_cases he : J / 2 = I
  · rw [if_pos he]
    refine ⟨sub_mk0 hI, ?_⟩
    rw [e, hp, he, pathL_nil (Int.le_refl _)]
    unfold sidesL
    rw [if_pos rfl]
  · rw [if_neg he]
    refine ⟨sub_mk hI hk2 b2 (fun h => he h.symm), ?_⟩
    rw [e, hp]
    unfold sidesL
    rw [if_neg (by omega)]
theorem lab_up {A : List Tm} {h I J : Int} {m x : Val} {L : List Tm} (hx : labA A h m I J = (x, L, 0)) (hJ : J ≠ 0) : ∃ y B, labA A h m I (if J / 2 = I then 0 else J / 2) = (y, B, 0) ∧ walkA B y [J % 2] = (x, L, 0) := by
  obtain ⟨hs, ho, hw⟩ := lab_err0 hx
  obtain ⟨h1, h2⟩ := sides_up hs hJ
  rw [h2, show pathL 1 I ++ 2 :: (sidesL I (if J / 2 = I then 0 else J / 2) ++ [J % 2]) = (pathL 1 I ++ 2 :: sidesL I (if J / 2 = I then 0 else J / 2)) ++ [J % 2] by rw [List.append_assoc]; rfl] at hw
  obtain ⟨y, B, g1, g2⟩ := wkR_split hw
  refine ⟨y, B, by rw [lab_walk h1 ho]; exact g1, ?_⟩
  have oB := (wkR_facts _ ho opn3_lab g1).1
  rw [walk_of oB (sdB_iff.2 ⟨by simp, fun s hs => by rw [List.mem_singleton.1 hs]; omega⟩)]
  exact g2
theorem lab_zero {A : List Tm} {h I J : Int} {m x : Val} {L : List Tm} {e : Int} (hx : labA A h m I J = (x, L, e)) (he : ¬ e = 0) : x = zV := by
  by_cases hc : (subB h I J && opn A m) = true
  · have hc' := hc
    rw [Bool.and_eq_true] at hc'
    rw [lab_walk hc'.1 hc'.2] at hx
    have := wkR_err _ (A := A) (v := m) (by rw [hx]; exact he)
    rw [hx] at this
    simp only [Prod.mk.injEq] at this
    exact this.1
  · unfold labA at hx
    rw [if_neg hc] at hx
    simp only [Prod.mk.injEq] at hx
    exact hx.1.symm
end M
end Go.Proofs.YthmiekinjfaflaaGreat
