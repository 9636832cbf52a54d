/-
  Plain mathematics for the laws of layer 7: which errors go together; what is wrapped is taken out. No condition.
-/
import Derived.Test.YthmiekinjfaflaaGreatZE1
import Derived.Test.YthmiekinjfaflaaGreatZNW
namespace Go.Proofs.YthmiekinjfaflaaGreat
namespace M
theorem mkO_err {A : List Tm} {v : Val} : (mkO A v).2.2 = chkE A := by
  unfold mkO chkE
  by_cases h : Ok A
  · rw [if_pos h, if_pos h]
  · rw [if_neg h, if_neg h]
theorem mkT_err {A : List Tm} {t : Tm} : (mkT A t).2.2 = makeE A t := by
  unfold mkT; by_cases h : makeE A t = 0 <;> simp [h]
theorem make_bad {A : List Tm} {t : Tm} (h : ¬ Ok A) : makeE A t = 1 := by
  have : findE A t = 1 := by unfold findE; rw [if_neg fun h' => h h'.1]
  unfold makeE; rw [this]; simp
theorem make_small {A : List Tm} {t : Tm} (h : Ok A) (hm : mayB t A.length = true) (hl : A.length ≤ 60000) : makeE A t = 0 := by
  unfold makeE
  by_cases hp : plc t A = none
  · have e : findE A t = 4 := by unfold findE; rw [if_pos ⟨h, hm⟩, if_pos hp]
    rw [if_pos e, if_neg (by omega)]
  · have e : findE A t = 0 := by unfold findE; rw [if_pos ⟨h, hm⟩, if_neg hp]
    rw [e, if_neg (by decide)]
theorem mkT_err0 {A : List Tm} {t : Tm} (h : (mkT A t).2.2 = 0) : Ok A := (make_zero (mkT_err ▸ h)).1
theorem mkO_err0 {A : List Tm} {v : Val} (h : (mkO A v).2.2 = 0) : Ok A := by
  rw [mkO_err] at h
  unfold chkE at h
  by_cases hA : Ok A
  · exact hA
  · rw [if_neg hA] at h; cases h
theorem part_err0 {A : List Tm} {v : Val} {i : Int} (h : (partA A v i).2.2 = 0) : Ok A ∧ PartOk A v i := by
  unfold partA at h
  by_cases hp : PartOk A v i
  · rw [if_pos hp] at h
    refine ⟨?_, hp⟩
    by_cases hs : v.1 = true
    · rw [if_pos hs] at h; exact mkT_err0 h
    · rw [if_neg hs] at h; exact mkO_err0 h
  · rw [if_neg hp] at h; cases h
theorem wrap_err0 {A : List Tm} {k v : Val} (h : (wrapA A k v).2.2 = 0) : Ok A ∧ WrapOk A k v := by
  unfold wrapA at h
  by_cases hp : WrapOk A k v
  · rw [if_pos hp] at h
    refine ⟨?_, hp⟩
    by_cases hs : k.1 = true
    · rw [if_pos hs] at h; exact mkT_err0 h
    · rw [if_neg hs] at h; exact mkO_err0 h
  · rw [if_neg hp] at h; cases h
theorem part_no1 {A : List Tm} {v : Val} {i : Int} (h : ¬ PartOk A v i) : (partA A v i).2.2 = 1 := by unfold partA; rw [if_neg h]
theorem wrap_no1 {A : List Tm} {k v : Val} (h : ¬ WrapOk A k v) : (wrapA A k v).2.2 = 1 := by unfold wrapA; rw [if_neg h]
theorem un_no1 {A : List Tm} {k v : Val} (h : ¬ UnOk A k v) : (unA A k v).2 = 1 := by unfold unA; rw [if_neg h]
theorem part_ok {A : List Tm} {v : Val} {i : Int} (hA : Ok A) (hl : A.length ≤ 60000) (h : PartOk A v i) : (partA A v i).2.2 = 0 := by
  unfold partA
  rw [if_pos h]
  obtain ⟨hm, _, h0, h2⟩ := h
  by_cases hs : v.1 = true
  · rw [if_pos hs, mkT_err]
    obtain ⟨t0, t1⟩ := (mb_iff.1 hm).2 hs
    refine make_small hA ?_ hl
    unfold mayB
    have hk : 2 + i = 2 ∨ 2 + i = 3 ∨ 2 + i = 4 := by omega
    have hn : ¬ (2 + i = 1) := by omega
    simp only [hn, if_false, hk, if_true]
    simp [ahd, t0, t1]
  · rw [if_neg hs, mkO_err]; exact if_pos hA
theorem un_out {A : List Tm} {k v : Val} (h : (unA A k v).2 = 0 ∨ (unA A k v).2 = 7) : UnOk A k v := by
  by_cases hp : UnOk A k v
  · exact hp
  · rw [un_no1 hp] at h; omega
theorem kinds {A : List Tm} {a b : Val} {i : Int} (hl : A.length ≤ 60) {e f g h c : Int} (he : (wrapA A a b).2.2 = e) (hf : (unA A a b).2 = f) (hg : (partA A a i).2.2 = g) (hh : (partA A b 2).2.2 = h) (hc : chkV A a = c) :
    (¬ a.1 = b.1 → e = 1 ∧ f = 1) ∧ (g = 0 → c = 0) ∧ (e = 0 → h = 0 ∧ f = 1) ∧ (f = 0 ∨ f = 7 → h = 1) := by
  refine ⟨fun hab => ⟨?_, ?_⟩, fun h0 => ?_, fun h0 => ⟨?_, ?_⟩, fun h0 => ?_⟩
  · rw [← he]; exact wrap_no1 fun h => hab h.1.2.2
  · rw [← hf]; exact un_no1 fun h => hab h.2.1.2.2
  · rw [← hg] at h0
    obtain ⟨h1, h2⟩ := part_err0 h0
    rw [← hc]; exact if_pos ⟨h1, h2.1⟩
  · rw [← he] at h0
    obtain ⟨h1, h2⟩ := wrap_err0 h0
    rw [← hh]; exact part_ok h1 (by omega) ⟨h2.1.2.1, h2.2.2, by decide, by decide⟩
  · rw [← he] at h0
    obtain ⟨h1, h2⟩ := wrap_err0 h0
    rw [← hf]; exact un_no1 fun h => by have := h.2.2.2; rw [h2.2.2] at this; cases this
  · rw [← hf] at h0
    have := un_out h0
    rw [← hh]; exact part_no1 fun h => by have h3 := h.2.1; rw [this.2.2.2] at h3; cases h3
/-- L is A, with more behind it, or none -/
abbrev Ext (A L : List Tm) : Prop := A.length ≤ L.length ∧ L.take A.length = A
theorem Ext.at {A L : List Tm} (h : Ext A L) {j : Nat} (hj : j < A.length) : at_ L j = at_ A j := by
  have := at_take (l := L) hj
  rw [h.2] at this
  exact this.symm
theorem Ext.self (A : List Tm) : Ext A A := ⟨Nat.le_refl _, List.take_length⟩
theorem Ext.mbL {A L : List Tm} (h : Ext A L) {v : Val} (hv : mb A v = true) : mb L v = true := by
  obtain ⟨h1, h2⟩ := mb_iff.1 hv
  refine mb_iff.2 ⟨h1, fun hs => ?_⟩
  have := h2 hs
  have := h.1
  omega
theorem Ext.sldL {A L : List Tm} (h : Ext A L) {v : Val} (hv : mb A v = true) : sld L v = sld A v := by
  unfold M.sld
  cases hs : v.1 with
  | false => simp
  | true =>
    have := (mb_iff.1 hv).2 hs
    rw [h.at (by omega)]
theorem Ext.make {A : List Tm} {t : Tm} (h : makeE A t = 0) : Ext A (makeL A t) := ⟨(make_len h).1, (make_len h).2.2⟩
theorem mb_sym {A : List Tm} {v : Val} (h : mb A v = true) (hs : v.1 = true) : v = ofT v.2.2.2.2 := by
  have := (mb_iff.1 h).1
  unfold bare at this
  rw [if_pos hs] at this
  exact this
theorem mb_oct {A : List Tm} {v : Val} (h : mb A v = true) (hs : v.1 = false) (hl : sld A v = false) : v = ofB v.2.2.1 := by
  have := (mb_iff.1 h).1
  have h2 : v.2.1 = false := by
    unfold sld at hl
    rw [hs] at hl
    simpa using hl
  unfold bare at this
  rw [if_neg (by rw [hs]; decide), if_neg (by rw [h2]; decide)] at this
  exact this
theorem mb_ofT {A : List Tm} {i : Nat} (h : i < A.length) : mb A (ofT i) = true :=
  mb_iff.2 ⟨rfl, fun _ => ⟨by show (0 : Int) ≤ (i : Int); omega, by show (i : Int) < A.length; omega⟩⟩
theorem mb_ofS {A : List Tm} {s : Sea} : mb A (ofS s) = true := mb_iff.2 ⟨rfl, fun h => by cases h⟩
theorem mb_ofB {A : List Tm} {b : Blk} : mb A (ofB b) = true := mb_iff.2 ⟨rfl, fun h => by cases h⟩
theorem sld_ofT {A : List Tm} {i : Nat} : sld A (ofT i) = decide ((at_ A i).1 = 5) := by
  show (false || (true && decide ((at_ A (i : Int).toNat).1 = 5))) = _
  rw [Int.toNat_natCast]; simp
theorem un_of_wrap {A L : List Tm} {k v o : Val} (_ : Ok A) (hL : Ok L) (hx : Ext A L) (hp : WrapOk A k v) (hs : k.1 = true) {i : Nat} (hi : i < L.length) (ht : at_ L i = (5, k.2.2.2.2, v.2.2.2.2)) :
    unA L k (ofT i) = (v, 0) ∧ (o.1 = true → ((unA L o (ofT i)).2 = 0 ↔ o = k)) := by
  obtain ⟨⟨hk, hv, hkv⟩, sk, sv⟩ := hp
  have e1 := mb_sym hk hs
  have e2 := mb_sym hv (hkv ▸ hs)
  have sx : sld L (ofT i) = true := by rw [sld_ofT, ht]; rfl
  have mk := hx.mbL hk
  have skL : sld L k = false := by rw [hx.sldL hk]; exact sk
  have hu : UnOk L k (ofT i) := ⟨hL, ⟨mk, mb_ofT hi, hs⟩, skL, sx⟩
  have hT : (ofT (i : Int)).2.2.2.2.toNat = i := by show (i : Int).toNat = i; exact Int.toNat_natCast i
  have first : unA L k (ofT i) = (v, 0) := by
    unfold unA
    rw [if_pos hu, if_pos hs, hT, ht, if_pos rfl, ← e2]
  refine ⟨first, fun ho => ⟨fun h => ?_, fun h => by rw [h, first]⟩⟩
  have hq := un_out (.inl h)
  unfold unA at h
  rw [if_pos hq, if_pos ho, hT, ht] at h
  by_cases ha : k.2.2.2.2 = o.2.2.2.2
  · rw [mb_sym hq.2.1.1 ho, e1, ha]
  · rw [if_neg ha] at h; cases h
theorem back {A : List Tm} {k v o : Val} {x : Val} {L : List Tm} {e : Int} (hw : wrapA A k v = (x, L, e)) :
    (¬ e = 0 → x = zV ∧ L = []) ∧ (e = 0 → Ok L ∧ unA L k x = (v, 0) ∧ chkV L x = 0 ∧ (k.1 = true → o.1 = true → ((unA L o x).2 = 0 ↔ o = k))) := by
  have he : (wrapA A k v).2.2 = e := by rw [hw]
  constructor
  · intro hne
    unfold wrapA at hw he
    by_cases hp : WrapOk A k v
    · rw [if_pos hp] at hw he
      by_cases hs : k.1 = true
      · rw [if_pos hs] at hw he
        rw [mkT_err] at he
        unfold mkT at hw
        rw [if_neg (by rw [he]; exact hne)] at hw
        simp only [Prod.mk.injEq] at hw
        exact ⟨hw.1.symm, hw.2.1.symm⟩
      · rw [if_neg hs] at hw he
        unfold mkO at hw
        by_cases hA : Ok A
        · rw [if_pos hA] at hw
          simp only [Prod.mk.injEq] at hw
          exact absurd hw.2.2.symm hne
        · rw [if_neg hA] at hw
          simp only [Prod.mk.injEq] at hw
          exact ⟨hw.1.symm, hw.2.1.symm⟩
    · rw [if_neg hp] at hw
      simp only [Prod.mk.injEq] at hw
      exact ⟨hw.1.symm, hw.2.1.symm⟩
  · intro h0
    rw [h0] at he
    obtain ⟨hA, hp⟩ := wrap_err0 he
    unfold wrapA at hw he
    rw [if_pos hp] at hw he
    by_cases hs : k.1 = true
    · rw [if_pos hs] at hw he
      rw [mkT_err] at he
      unfold mkT at hw
      rw [if_pos he] at hw
      simp only [Prod.mk.injEq] at hw
      obtain ⟨rfl, rfl, _⟩ := hw
      obtain ⟨i, e1, e2, e3, _⟩ := make_there he
      rw [e1]
      have hL := make_ok he
      obtain ⟨u1, u2⟩ := un_of_wrap (o := o) hA hL (Ext.make he) hp hs e2 e3
      exact ⟨hL, u1, if_pos ⟨hL, mb_ofT e2⟩, fun _ => u2⟩
    · have hs' : k.1 = false := by simpa using hs
      rw [if_neg hs] at hw he
      unfold mkO at hw
      rw [if_pos hA] at hw
      simp only [Prod.mk.injEq] at hw
      obtain ⟨rfl, rfl, _⟩ := hw
      obtain ⟨⟨hk, hv, hkv⟩, sk, sv⟩ := hp
      have e1 := mb_oct hk hs' sk
      have e2 := mb_oct hv (hkv ▸ hs') sv
      refine ⟨hA, ?_, if_pos ⟨hA, mb_ofS⟩, fun h => absurd h hs⟩
      unfold unA
      rw [if_pos ⟨hA, ⟨hk, mb_ofS, hs'⟩, sk, rfl⟩, if_neg hs]
      show (ofB (unV k.2.2.1 (wrap k.2.2.1 v.2.2.1)), unE k.2.2.1 (wrap k.2.2.1 v.2.2.1)) = (v, 0)
      rw [unV_wrap, unE_wrap, ← e2]
end M
end Go.Proofs.YthmiekinjfaflaaGreat
namespace Go.Proofs.YthmiekinjfaflaaGreat
open Go.RowKit
def elVal : Elt Tryz.prog M.Val where
  st := 117
  et := 29
  enc := fun v => [.bool v.1, .bool v.2.1, .int .u64 (M.nu v.2.2.1.1), .int .u64 (M.nu v.2.2.1.2), .int .u64 (M.nu v.2.2.2.1.1.1), .int .u64 (M.nu v.2.2.2.1.1.2), .int .u64 (M.nu v.2.2.2.1.2.1), .int .u64 (M.nu v.2.2.2.1.2.2), .int .i64 v.2.2.2.2]
  size := 9
  bytes := 64
  zero := (.agg #[.bool false, .bool false, .int .u64 0, .int .u64 0, .int .u64 0, .int .u64 0, .int .u64 0, .int .u64 0, .int .i64 0])
  ok := fun _ => True
  pos := by decide
  small := by decide
  len := fun _ => rfl
  one := by intro x u hu; simp at hu; rcases hu with rfl | rfl | rfl | rfl | rfl | rfl | rfl | rfl | rfl <;> rfl
  ht := Tryz.underlying117
  info := by kernel_rfl
  zs := rfl
/-- the slice value v holds the values L -/
abbrev Vs (W : World) (v : Value) (L : List M.Val) : Prop := Sl elVal W v L
theorem Vs.cell {W : World} {b off n cap : Nat} {L : List M.Val} (h : Vs W (.slice (some ⟨b, off, none⟩) n cap) L) {k : Nat} {x : M.Val} (hk : L[k]? = some x) :
    W.cell? ⟨b, off + k * 9, none⟩ = some (.bool x.1) ∧ W.cell? ⟨b, off + k * 9 + 1, none⟩ = some (.bool x.2.1) ∧ W.cell? ⟨b, off + k * 9 + 2, none⟩ = some (.int .u64 (M.nu x.2.2.1.1)) ∧ W.cell? ⟨b, off + k * 9 + 3, none⟩ = some (.int .u64 (M.nu x.2.2.1.2)) ∧ W.cell? ⟨b, off + k * 9 + 4, none⟩ = some (.int .u64 (M.nu x.2.2.2.1.1.1)) ∧ W.cell? ⟨b, off + k * 9 + 5, none⟩ = some (.int .u64 (M.nu x.2.2.2.1.1.2)) ∧ W.cell? ⟨b, off + k * 9 + 6, none⟩ = some (.int .u64 (M.nu x.2.2.2.1.2.1)) ∧ W.cell? ⟨b, off + k * 9 + 7, none⟩ = some (.int .u64 (M.nu x.2.2.2.1.2.2)) ∧ W.cell? ⟨b, off + k * 9 + 8, none⟩ = some (.int .i64 x.2.2.2.2) :=
  ⟨Sl.at h hk (i := 0) (by decide), Sl.at h hk (i := 1) (by decide), Sl.at h hk (i := 2) (by decide), Sl.at h hk (i := 3) (by decide), Sl.at h hk (i := 4) (by decide), Sl.at h hk (i := 5) (by decide), Sl.at h hk (i := 6) (by decide), Sl.at h hk (i := 7) (by decide), Sl.at h hk (i := 8) (by decide)⟩
set_option maxRecDepth 100000 in
/-- values that are handed over, one, or two -/
theorem vs_one (W : World) (g : Nat) (hg : g = W.heap.size) (x : M.Val) : Vs (W.alloc (.cells #[.bool x.1, .bool x.2.1, .int .u64 (M.nu x.2.2.1.1), .int .u64 (M.nu x.2.2.1.2), .int .u64 (M.nu x.2.2.2.1.1.1), .int .u64 (M.nu x.2.2.2.1.1.2), .int .u64 (M.nu x.2.2.2.1.2.1), .int .u64 (M.nu x.2.2.2.1.2.2), .int .i64 x.2.2.2.2] 29)) (.slice (some ⟨g, 0, none⟩) 1 1) [x] := by
  subst hg
  exact Sl.of_own (base := 0) (e := 29) (n := 1) ⟨rfl, .inr ⟨W.heap.size, 1, _, rfl, Nat.zero_le _, heap_alloc_new W _, Nat.le_refl _, by unfold maxLen; omega, rfl, rfl⟩⟩ (fun _ _ => trivial)
set_option maxRecDepth 100000 in
theorem vs_two (W : World) (g : Nat) (hg : g = W.heap.size) (x y : M.Val) : Vs (W.alloc (.cells #[.bool x.1, .bool x.2.1, .int .u64 (M.nu x.2.2.1.1), .int .u64 (M.nu x.2.2.1.2), .int .u64 (M.nu x.2.2.2.1.1.1), .int .u64 (M.nu x.2.2.2.1.1.2), .int .u64 (M.nu x.2.2.2.1.2.1), .int .u64 (M.nu x.2.2.2.1.2.2), .int .i64 x.2.2.2.2, .bool y.1, .bool y.2.1, .int .u64 (M.nu y.2.2.1.1), .int .u64 (M.nu y.2.2.1.2), .int .u64 (M.nu y.2.2.2.1.1.1), .int .u64 (M.nu y.2.2.2.1.1.2), .int .u64 (M.nu y.2.2.2.1.2.1), .int .u64 (M.nu y.2.2.2.1.2.2), .int .i64 y.2.2.2.2] 29)) (.slice (some ⟨g, 0, none⟩) 2 2) [x, y] := by
  subst hg
  exact Sl.of_own (base := 0) (e := 29) (n := 2) ⟨rfl, .inr ⟨W.heap.size, 2, _, rfl, Nat.zero_le _, heap_alloc_new W _, Nat.le_refl _, by unfold maxLen; omega, rfl, rfl⟩⟩ (fun _ _ => trivial)
def M.mbs (A : List M.Tm) (V : List M.Val) : Bool := V.all fun v => M.mb A v && (v.1 == (V[0]?.getD M.zV).1)
theorem M.mbs_false {A : List M.Tm} {V : List M.Val} {k : Nat} {x : M.Val} (hk : V[k]? = some x) (h : ¬ (M.Mb A x ∧ x.1 = (V[0]?.getD M.zV).1)) : M.mbs A V = false := by
  rw [Bool.eq_false_iff]
  intro h2
  have h3 := List.all_eq_true.1 h2 x (List.mem_of_getElem? hk)
  simp only [Bool.and_eq_true, beq_iff_eq] at h3
  exact h ⟨M.mb_iff.1 h3.1, h3.2⟩
theorem M.mbs_one {A : List M.Tm} {v : M.Val} : M.mbs A [v] = M.mb A v := by simp [M.mbs]
theorem M.mbs_two {A : List M.Tm} {k v : M.Val} : M.mbs A [k, v] = (M.mb A k && (M.mb A v && (k.1 == v.1))) := by
  simp [M.mbs]
  cases M.mb A k <;> cases M.mb A v <;> simp [Bool.beq_comm]
set_option maxRecDepth 100000 in
set_option maxHeartbeats 4000000 in
theorem mayBe7_eq {A : List M.Tm} {V : List M.Val} {r : Bool} (hr : M.mbs A V = r) {vl vv : Value} (w : World) (u1 : Ts w vl A) (u2 : Vs w vv V) :
    Calls Tryz.prog 87 #[vl, vv] w fun e w' => e = .returned (.bool r) ∧ Below w.heap.size w w' := by
  have hq := eqVa
  obtain ⟨a1, c1, rfl, hp1, hp2, hp4⟩ := u1.form
  obtain ⟨a2, c2, rfl, hq1, hq2, hq4⟩ := u2.form
  have hm : V.length ≤ maxLen := by omega
  unfold maxLen at hm
  have U2 := hidq u2
  have HQ4 := hidq hq4
  have HR := hidq hr
  obtain ⟨n, hn⟩ : ∃ n, A.length = n := ⟨_, rfl⟩
  have HL := hidq hn
  rw [hn]
  clear hp4 hq4 u1 u2 hp1 hp2 hr hn
  generalize hn : V.length = m at *
  have HN := hidq hn
  clear hn
  go_enter Tryz.func87, Tryz.ntmps87
  go_wp2
  go_loopw [9] (fun i wr => ∃ k : Nat, k ≤ m ∧ i = .int .i64 k ∧ Below w.heap.size w wr ∧ ∀ j x, j < k → V[j]? = some x → M.mb A x = true ∧ x.1 = (V[0]?.getD M.zV).1) (fun i _ => m - (intOf i).toNat)
  case atStart => exact ⟨0, by omega, rfl, Below.refl _ _, fun j x hj => by omega⟩
  case round =>
    obtain ⟨k, hk, rfl, hb, hall⟩ := hrel
    have HA := hidq hall
    have HB := hidq hb
    clear hall
    by_cases hlt : k < m
    · obtain ⟨b1, o1, rfl⟩ := HQ4.out (by omega)
      obtain ⟨x, hx⟩ : ∃ x, V[k]? = some x := ⟨_, List.getElem?_eq_getElem (by rw [HN.out]; exact hlt)⟩
      obtain ⟨y, hy⟩ : ∃ y, V[0]? = some y := ⟨_, List.getElem?_eq_getElem (by rw [HN.out]; omega)⟩
      obtain ⟨x0, x1, x2, x3, x4, x5, x6, x7, x8⟩ := Vs.cell (U2.out.below hb) hx
      have HX := hidq hx
      have HY := hidq hy
      have HY2 := hidq (show (V[0]?.getD M.zV) = y by rw [hy]; rfl)
      clear hb hx hy
      have k0 : (0 : Int) ≤ k := by omega
      have k1 : (k : Int) ≤ c2 := by omega
      have k2 : ¬ c2 = 0 := by omega
      have k3 : (0 : Int) < m := by omega
      have k4 : 0 < m := by omega
      go_wp2
      have XB := Bx9.new wr x
      have hB1 := below_one (o := (.cells #[.bool x.1, .bool x.2.1, .int .u64 (M.nu x.2.2.1.1), .int .u64 (M.nu x.2.2.1.2), .int .u64 (M.nu x.2.2.2.1.1.1), .int .u64 (M.nu x.2.2.2.1.1.2), .int .u64 (M.nu x.2.2.2.1.2.1), .int .u64 (M.nu x.2.2.2.1.2.2), .int .i64 x.2.2.2.2] 29)) HB.out
      have U3 := U2.out.below hB1
      generalize wr.alloc (.cells #[.bool x.1, .bool x.2.1, .int .u64 (M.nu x.2.2.1.1), .int .u64 (M.nu x.2.2.1.2), .int .u64 (M.nu x.2.2.2.1.1.1), .int .u64 (M.nu x.2.2.2.1.1.2), .int .u64 (M.nu x.2.2.2.1.2.1), .int .u64 (M.nu x.2.2.2.1.2.2), .int .i64 x.2.2.2.2] 29) = W at *
      generalize wr.heap.size = Bs at *
      obtain ⟨G, HG, HF, HO, HW, ne⟩ := clq_of w W (fun X => Bx9 X Bs x ∧ Vs X (.slice (some ⟨b1, o1, none⟩) m c2) V) (fun _ _ h hb => ⟨h.1.below hb, h.2.below hb⟩) ⟨XB, U3⟩ hB1
      have h1 := fun c : Clq G => (HF.out c).1.cells
      have h2 := fun c : Clq G => (Vs.cell (HF.out c).2 HY.out).1
      rw [Nat.zero_mul, Nat.add_zero] at h2
      clear XB hB1 U3 x0 x1 x2 x3 x4 x5 x6 x7 x8
      by_cases hbr : x = M.bare x
      · have HBR := hidq hbr.symm
        by_cases hs : x.1 = y.1
        · have hs1 : (x.1 == y.1) = true := by simpa using hs
          clear hbr hs
          refine regionq (by kernel_rfl) (by kernel_rfl) HW.out ?_
          repeat (go_big_quiet_step (first | (go_at_call 96; exact quietq HG.out _ (bare_eq HBR.out _))))
          refine wpQuiet_nil ?_
          rintro _ ⟨s2, rfl⟩
          have hB2 := hidq (HO.out s2)
          have NX : Hid (M.mb A x = true → ∀ j z, j < k + 1 → V[j]? = some z → M.mb A z = true ∧ z.1 = (V[0]?.getD M.zV).1) := fun hmb j z hj hz => by
            rcases Nat.lt_or_ge j k with h | h
            · exact HA.out j z h hz
            · obtain rfl : j = k := by omega
              rw [HX.out] at hz
              obtain rfl := Option.some.inj hz
              exact ⟨hmb, by rw [HY2.out]; simpa using hs1⟩
          cases hsy : x.1 with
          | false =>
            have MB := hidq (M.mb_iff (A := A).2 ⟨HBR.out.symm, fun h => by rw [hsy] at h; cases h⟩)
            go_wp2
            go_roundw
            case rel => exact ⟨k + 1, by omega, by go_num, hB2.out, NX.out MB.out⟩
            case measure => simp [intOf]; omega
          | true =>
            by_cases t0 : x.2.2.2.2 < 0
            · obtain rfl : r = false := by
                rw [← HR.out]
                exact M.mbs_false HX.out fun h => by have := h.1.2 hsy; omega
              go_wp2
              go_ret
              exact ⟨rfl, hB2.out⟩
            · by_cases t1 : (n : Int) ≤ x.2.2.2.2
              · obtain rfl : r = false := by
                  rw [← HR.out]
                  exact M.mbs_false HX.out fun h => by have := h.1.2 hsy; rw [HL.out] at this; omega
                go_wp2
                go_ret
                exact ⟨rfl, hB2.out⟩
              · have MB := hidq (M.mb_iff (A := A).2 ⟨HBR.out.symm, fun _ => by rw [HL.out]; omega⟩)
                go_wp2
                go_roundw
                case rel => exact ⟨k + 1, by omega, by go_num, hB2.out, NX.out MB.out⟩
                case measure => simp [intOf]; omega
        · have hs1 : (x.1 == y.1) = false := by simpa using hs
          obtain rfl : r = false := by
            rw [← HR.out]
            exact M.mbs_false HX.out fun h => hs (by rw [← HY2.out]; exact h.2)
          clear hbr hs
          refine regionq (by kernel_rfl) (by kernel_rfl) HW.out ?_
          repeat (go_big_quiet_step (first | (go_at_call 96; exact quietq HG.out _ (bare_eq HBR.out _))))
          refine wpQuiet_nil ?_
          rintro _ ⟨s2, rfl⟩
          have hB2 := hidq (HO.out s2)
          go_wp2
          go_ret
          exact ⟨rfl, hB2.out⟩
      · obtain ⟨z, hz⟩ : ∃ z, M.bare x = z := ⟨_, rfl⟩
        have HBR := hidq hz
        have hne := val_beq x z
        rw [show decide (x = z) = false by rw [← hz]; simpa using hbr] at hne
        obtain rfl : r = false := by
          rw [← HR.out]
          exact M.mbs_false HX.out fun h => hbr h.1.1
        clear hbr hz
        refine regionq (by kernel_rfl) (by kernel_rfl) HW.out ?_
        repeat (go_big_quiet_step (first | (go_at_call 96; exact quietq HG.out _ (bare_eq HBR.out _))))
        refine wpQuiet_nil ?_
        rintro _ ⟨s2, rfl⟩
        have hB2 := hidq (HO.out s2)
        go_wp2
        go_ret
        exact ⟨rfl, hB2.out⟩
    · obtain rfl : r = true := by
        rw [← HR.out]
        refine List.all_eq_true.2 fun x hx => ?_
        obtain ⟨j, hj, rfl⟩ := List.mem_iff_getElem.1 hx
        obtain ⟨q1, q2⟩ := HA.out j _ (by rw [HN.out] at hj; omega) (List.getElem?_eq_getElem hj)
        simp only [Bool.and_eq_true, beq_iff_eq]
        exact ⟨q1, q2⟩
      clear hb
      go_wp2
      go_ret
      exact ⟨rfl, HB.out⟩
end Go.Proofs.YthmiekinjfaflaaGreat
namespace Go.Proofs.YthmiekinjfaflaaGreat
open Go.RowKit
set_option maxRecDepth 100000 in
theorem part7_eq {b x : M.Blk} {i : Int} (h : M.partV b i = x) (w : World) :
    Calls Tryz.prog 99 #[(.agg #[.int .u64 (M.nu b.1), .int .u64 (M.nu b.2)]), .int .i64 i] w fun e w' => e = .returned (.tuple #[(.agg #[.int .u64 (M.nu x.1), .int .u64 (M.nu x.2)]), .int .i64 (M.partE i)]) ∧ Below w.heap.size w w' := by subst h; exact part_any b i w
set_option maxRecDepth 100000 in
theorem rpart7_eq {b x : M.Blk} {i : Int} (h : M.partV b i = x) (w : World) :
    Calls Tryz.prog 63 #[(.agg #[.int .u64 (M.nu b.1), .int .u64 (M.nu b.2)]), .int .i64 i] w fun e w' => e = .returned (.tuple #[(.agg #[.int .u64 (M.nu x.1), .int .u64 (M.nu x.2)]), .int .i64 (M.partE i)]) ∧ Below w.heap.size w w' := by subst h; exact rpart_any b i w
theorem own_set9 {W : World} {base : Nat} {e : TypeId} {size n B : Nat} {v : Value} {xs : List Value} (h : W.ownsRow base e size v n xs) (hB : B < base) (a b c d e' f g i j : Value) : (((((((((W.setCell ⟨B, 0, none⟩ a).setCell ⟨B, 1, none⟩ b).setCell ⟨B, 2, none⟩ c).setCell ⟨B, 3, none⟩ d).setCell ⟨B, 4, none⟩ e').setCell ⟨B, 5, none⟩ f).setCell ⟨B, 6, none⟩ g).setCell ⟨B, 7, none⟩ i).setCell ⟨B, 8, none⟩ j).ownsRow base e size v n xs :=
  own_otherq (own_otherq (own_otherq (own_otherq (own_otherq (own_otherq (own_otherq (own_otherq (own_otherq h hB _) hB _) hB _) hB _) hB _) hB _) hB _) hB _) hB _
theorem zV_eq : ((.agg #[.bool M.zV.1, .bool M.zV.2.1, .int .u64 (M.nu M.zV.2.2.1.1), .int .u64 (M.nu M.zV.2.2.1.2), .int .u64 (M.nu M.zV.2.2.2.1.1.1), .int .u64 (M.nu M.zV.2.2.2.1.1.2), .int .u64 (M.nu M.zV.2.2.2.1.2.1), .int .u64 (M.nu M.zV.2.2.2.1.2.2), .int .i64 M.zV.2.2.2.2]) : Value) = (.agg #[.bool false, .bool false, .int .u64 0, .int .u64 0, .int .u64 0, .int .u64 0, .int .u64 0, .int .u64 0, .int .i64 0]) := rfl
set_option maxRecDepth 100000 in
set_option maxHeartbeats 4000000 in
theorem partOf_eq {v r : M.Val} {i : Int} (h : M.ofB (M.partV v.2.2.1 i) = r) (w : World) :
    Calls Tryz.prog 91 #[(.agg #[.bool v.1, .bool v.2.1, .int .u64 (M.nu v.2.2.1.1), .int .u64 (M.nu v.2.2.1.2), .int .u64 (M.nu v.2.2.2.1.1.1), .int .u64 (M.nu v.2.2.2.1.1.2), .int .u64 (M.nu v.2.2.2.1.2.1), .int .u64 (M.nu v.2.2.2.1.2.2), .int .i64 v.2.2.2.2]), .int .i64 i] w fun e w' => e = .returned (.agg #[.bool r.1, .bool r.2.1, .int .u64 (M.nu r.2.2.1.1), .int .u64 (M.nu r.2.2.1.2), .int .u64 (M.nu r.2.2.2.1.1.1), .int .u64 (M.nu r.2.2.2.1.1.2), .int .u64 (M.nu r.2.2.2.1.2.1), .int .u64 (M.nu r.2.2.2.1.2.2), .int .i64 r.2.2.2.2]) ∧ Below w.heap.size w w' := by
  obtain ⟨x, hx⟩ : ∃ x, M.partV v.2.2.1 i = x := ⟨_, rfl⟩
  rw [hx] at h
  have HX := hidq hx
  have HR := hidq h
  have X0 := hidq (zbox (w.alloc (.cells #[.bool v.1, .bool v.2.1, .int .u64 (M.nu v.2.2.1.1), .int .u64 (M.nu v.2.2.1.2), .int .u64 (M.nu v.2.2.2.1.1.1), .int .u64 (M.nu v.2.2.2.1.1.2), .int .u64 (M.nu v.2.2.2.1.2.1), .int .u64 (M.nu v.2.2.2.1.2.2), .int .i64 v.2.2.2.2] 29)))
  rw [World.size_alloc] at X0
  have B0 := hidq (show Below w.heap.size w ((w.alloc (.cells #[.bool v.1, .bool v.2.1, .int .u64 (M.nu v.2.2.1.1), .int .u64 (M.nu v.2.2.1.2), .int .u64 (M.nu v.2.2.2.1.1.1), .int .u64 (M.nu v.2.2.2.1.1.2), .int .u64 (M.nu v.2.2.2.1.2.1), .int .u64 (M.nu v.2.2.2.1.2.2), .int .i64 v.2.2.2.2] 29)).alloc (.cells #[.bool false, .bool false, .int .u64 0, .int .u64 0, .int .u64 0, .int .u64 0, .int .u64 0, .int .u64 0, .int .i64 0] 29)) from below_one (below_one (Below.refl _ _)))
  clear h hx
  go_enter Tryz.func91, Tryz.ntmps91
  go_wp2_with (first | (go_at_call 99; refine (part7_eq HX.out _).mono ?_; rintro e w1 ⟨rfl, hb1⟩; have X1 := hidq ((X0.out.below hb1).alloc (.cells #[.int .u64 (M.nu x.1), .int .u64 (M.nu x.2)] 25)); have B1 := hidq (below_one (o := (.cells #[.int .u64 (M.nu x.1), .int .u64 (M.nu x.2)] 25)) (below_trans B0.out hb1)); clear hb1) | (go_at_call 100; refine (ofBlock_eq HR.out _).mono ?_; rintro e w2 ⟨rfl, hb2⟩; have XZ := X1.out.below hb2; obtain ⟨c0, c1, c2, c3, c4, c5, c6, c7, c8⟩ := XZ.cells; obtain ⟨f0, f1, f2, f3, f4, f5, f6, f7, f8⟩ := XZ.frozen; have B2 := hidq (below_trans B1.out hb2); clear hb2 XZ))
  refine bodyPost_ret (v := .agg #[.bool _, .bool _, .int .u64 _, .int .u64 _, .int .u64 _, .int .u64 _, .int .u64 _, .int .u64 _, .int .i64 _]) (by simp [results, Tryz.results91, go_sem, c0, c1, c2, c3, c4, c5, c6, c7, c8]) rfl ⟨rfl, below_set9 B2.out (by omega) _ _ _ _ _ _ _ _ _⟩
set_option maxRecDepth 100000 in
set_option maxHeartbeats 4000000 in
theorem madeTerm_eq {A : List M.Tm} {t : M.Tm} (ht : M.fitT t) {x : M.Val} {L : List M.Tm} {n : Int} (h : M.mkT A t = (x, L, n)) {vl : Value} (w : World) (u : Ts w vl A) :
    Calls Tryz.prog 89 #[vl, (.agg #[.int .i64 t.1, .int .i64 t.2.1, .int .i64 t.2.2])] w fun e w' => ∃ v', e = .returned (.tuple #[(.agg #[.bool x.1, .bool x.2.1, .int .u64 (M.nu x.2.2.1.1), .int .u64 (M.nu x.2.2.1.2), .int .u64 (M.nu x.2.2.2.1.1.1), .int .u64 (M.nu x.2.2.2.1.1.2), .int .u64 (M.nu x.2.2.2.1.2.1), .int .u64 (M.nu x.2.2.2.1.2.2), .int .i64 x.2.2.2.2]), v', .int .i64 n]) ∧ w'.ownsRow w.heap.size 39 3 v' L.length (elTm.cells L) ∧ Below w.heap.size w w' := by
  have X0 := hidq (zbox (w.alloc (.cells #[.int .i64 t.1, .int .i64 t.2.1, .int .i64 t.2.2] 39)))
  rw [World.size_alloc] at X0
  have B0 := hidq (show Below w.heap.size w ((w.alloc (.cells #[.int .i64 t.1, .int .i64 t.2.1, .int .i64 t.2.2] 39)).alloc (.cells #[.bool false, .bool false, .int .u64 0, .int .u64 0, .int .u64 0, .int .u64 0, .int .u64 0, .int .u64 0, .int .i64 0] 29)) from below_one (below_one (Below.refl _ _)))
  have U0 := hidq ((u.alloc (.cells #[.int .i64 t.1, .int .i64 t.2.1, .int .i64 t.2.2] 39)).alloc (.cells #[.bool false, .bool false, .int .u64 0, .int .u64 0, .int .u64 0, .int .u64 0, .int .u64 0, .int .u64 0, .int .i64 0] 29))
  have HF := hidq ht
  unfold M.mkT at h
  by_cases he : M.makeE A t = 0
  · rw [if_pos he] at h
    simp only [Prod.mk.injEq] at h
    obtain ⟨hx, hL, rfl⟩ := h
    obtain ⟨i, hi⟩ : ∃ i, M.makeV A t = i := ⟨_, rfl⟩
    rw [hi] at hx
    have HI := hidq hi
    have HE := hidq he
    have HL := hidq hL
    have HX := hidq hx
    clear u ht hi he hL hx
    go_enter Tryz.func89, Tryz.ntmps89
    go_wp2_with (first | (go_at_call 97; refine (make_eq HF.out HI.out HE.out HL.out _ U0.out).mono ?_; rintro e w1 ⟨v', rfl, ho1, hb1⟩; rw [World.size_alloc, World.size_alloc] at ho1; have O1 := hidq ho1; have X1 := hidq (X0.out.below hb1); have B1 := hidq (below_trans B0.out hb1); clear ho1 hb1) | (go_at_call 98; refine (ofTerm_eq HX.out _).mono ?_; rintro e w2 ⟨rfl, hb2⟩; have XZ := X1.out.below hb2; obtain ⟨c0, c1, c2, c3, c4, c5, c6, c7, c8⟩ := XZ.cells; obtain ⟨f0, f1, f2, f3, f4, f5, f6, f7, f8⟩ := XZ.frozen; have O2 := hidq (own_keptq O1.out hb2); have B2 := hidq (below_trans B1.out hb2); clear hb2 XZ))
    refine bodyPost_ret (v := .tuple #[.agg #[.bool _, .bool _, .int .u64 _, .int .u64 _, .int .u64 _, .int .u64 _, .int .u64 _, .int .u64 _, .int .i64 _], _, .int .i64 _]) (by simp [results, Tryz.results89, go_sem, c0, c1, c2, c3, c4, c5, c6, c7, c8]) rfl ⟨_, rfl, own_lowerq (own_set9 O2.out (by omega) _ _ _ _ _ _ _ _ _) (by omega), below_set9 B2.out (by omega) _ _ _ _ _ _ _ _ _⟩
  · rw [if_neg he] at h
    simp only [Prod.mk.injEq] at h
    obtain ⟨rfl, rfl, hn⟩ := h
    obtain ⟨i, hi⟩ : ∃ i, M.makeV A t = i := ⟨_, rfl⟩
    obtain ⟨L, hL⟩ : ∃ L, M.makeL A t = L := ⟨_, rfl⟩
    rw [hn] at he
    have HI := hidq hi
    have HE := hidq hn
    have HL := hidq hL
    have he2 : (n == 0) = false := by simpa using he
    rw [zV_eq]
    clear u ht hi hL hn
    go_enter Tryz.func89, Tryz.ntmps89
    go_wp2_with (first | (go_at_call 97; refine (make_eq HF.out HI.out HE.out HL.out _ U0.out).mono ?_; rintro e w1 ⟨v', rfl, ho1, hb1⟩; have XZ := X0.out.below hb1; obtain ⟨c0, c1, c2, c3, c4, c5, c6, c7, c8⟩ := XZ.cells; obtain ⟨f0, f1, f2, f3, f4, f5, f6, f7, f8⟩ := XZ.frozen; have B1 := hidq (below_trans B0.out hb1); clear ho1 hb1 XZ))
    refine bodyPost_ret (v := .tuple #[.agg #[.bool _, .bool _, .int .u64 _, .int .u64 _, .int .u64 _, .int .u64 _, .int .u64 _, .int .u64 _, .int .i64 _], _, .int .i64 _]) (by simp [results, Tryz.results89, go_sem, c0, c1, c2, c3, c4, c5, c6, c7, c8]) rfl ⟨_, rfl, World.ownsRow_nil _ _ _ _, below_set9 B1.out (by omega) _ _ _ _ _ _ _ _ _⟩
set_option maxRecDepth 100000 in
set_option maxHeartbeats 4000000 in
theorem madeOctets_eq {A : List M.Tm} {v : M.Val} {x : M.Val} {L : List M.Tm} {n : Int} (h : M.mkO A v = (x, L, n)) {vl : Value} (w : World) (u : Ts w vl A) :
    Calls Tryz.prog 90 #[vl, (.agg #[.bool v.1, .bool v.2.1, .int .u64 (M.nu v.2.2.1.1), .int .u64 (M.nu v.2.2.1.2), .int .u64 (M.nu v.2.2.2.1.1.1), .int .u64 (M.nu v.2.2.2.1.1.2), .int .u64 (M.nu v.2.2.2.1.2.1), .int .u64 (M.nu v.2.2.2.1.2.2), .int .i64 v.2.2.2.2])] w fun e w' => ∃ v', e = .returned (.tuple #[(.agg #[.bool x.1, .bool x.2.1, .int .u64 (M.nu x.2.2.1.1), .int .u64 (M.nu x.2.2.1.2), .int .u64 (M.nu x.2.2.2.1.1.1), .int .u64 (M.nu x.2.2.2.1.1.2), .int .u64 (M.nu x.2.2.2.1.2.1), .int .u64 (M.nu x.2.2.2.1.2.2), .int .i64 x.2.2.2.2]), v', .int .i64 n]) ∧ w'.ownsRow w.heap.size 39 3 v' L.length (elTm.cells L) ∧ Below w.heap.size w w' := by
  have X0 := hidq (zbox (w.alloc (.cells #[.bool v.1, .bool v.2.1, .int .u64 (M.nu v.2.2.1.1), .int .u64 (M.nu v.2.2.1.2), .int .u64 (M.nu v.2.2.2.1.1.1), .int .u64 (M.nu v.2.2.2.1.1.2), .int .u64 (M.nu v.2.2.2.1.2.1), .int .u64 (M.nu v.2.2.2.1.2.2), .int .i64 v.2.2.2.2] 29)))
  rw [World.size_alloc] at X0
  have XV := hidq ((Bx9.new w v).alloc (.cells #[.bool false, .bool false, .int .u64 0, .int .u64 0, .int .u64 0, .int .u64 0, .int .u64 0, .int .u64 0, .int .i64 0] 29))
  have B0 := hidq (show Below w.heap.size w ((w.alloc (.cells #[.bool v.1, .bool v.2.1, .int .u64 (M.nu v.2.2.1.1), .int .u64 (M.nu v.2.2.1.2), .int .u64 (M.nu v.2.2.2.1.1.1), .int .u64 (M.nu v.2.2.2.1.1.2), .int .u64 (M.nu v.2.2.2.1.2.1), .int .u64 (M.nu v.2.2.2.1.2.2), .int .i64 v.2.2.2.2] 29)).alloc (.cells #[.bool false, .bool false, .int .u64 0, .int .u64 0, .int .u64 0, .int .u64 0, .int .u64 0, .int .u64 0, .int .i64 0] 29)) from below_one (below_one (Below.refl _ _)))
  have U0 := hidq ((u.alloc (.cells #[.bool v.1, .bool v.2.1, .int .u64 (M.nu v.2.2.1.1), .int .u64 (M.nu v.2.2.1.2), .int .u64 (M.nu v.2.2.2.1.1.1), .int .u64 (M.nu v.2.2.2.1.1.2), .int .u64 (M.nu v.2.2.2.1.2.1), .int .u64 (M.nu v.2.2.2.1.2.2), .int .i64 v.2.2.2.2] 29)).alloc (.cells #[.bool false, .bool false, .int .u64 0, .int .u64 0, .int .u64 0, .int .u64 0, .int .u64 0, .int .u64 0, .int .i64 0] 29))
  unfold M.mkO at h
  by_cases hA : M.Ok A
  · rw [if_pos hA] at h
    simp only [Prod.mk.injEq] at h
    obtain ⟨rfl, rfl, rfl⟩ := h
    have HL := hidq hA.1
    have HE := hidq (show M.chkE A = 0 from if_pos hA)
    clear u hA
    go_enter Tryz.func90, Tryz.ntmps90
    go_upto_region 4 with (first | (go_at_call 14; refine (check_eq HE.out _ U0.out).mono ?_; rintro e w1 ⟨rfl, hb1⟩; have XZ := X0.out.below hb1; have YV := XV.out.below hb1; have U1 := U0.out.below hb1; have B1 := below_trans B0.out hb1; have s1 := hb1.size; rw [World.size_alloc, World.size_alloc] at s1; clear hb1))
    obtain ⟨c0, c1, c2, c3, c4, c5, c6, c7, c8⟩ := YV.cells
    have n1 : w.heap.size + 1 ≠ w.heap.size := by omega
    have XD : Hid (Bx9 w1.drew (w.heap.size + 1) M.zV) := XZ
    have YD : Hid (Bx9 w1.drew w.heap.size v) := YV
    have BD := hidq (below_d1 B1)
    have S1 := hidq s1
    clear XZ YV B1 s1
    go_region_held3 (fun X => X.cell? ⟨w.heap.size, 0, none⟩ = some (.bool v.1) ∧ X.cell? ⟨w.heap.size, 1, none⟩ = some (.bool v.2.1) ∧ X.cell? ⟨w.heap.size, 2, none⟩ = some (.int .u64 (M.nu v.2.2.1.1)) ∧ X.cell? ⟨w.heap.size, 3, none⟩ = some (.int .u64 (M.nu v.2.2.1.2)) ∧ X.cell? ⟨w.heap.size, 4, none⟩ = some (.int .u64 (M.nu v.2.2.2.1.1.1)) ∧ X.cell? ⟨w.heap.size, 5, none⟩ = some (.int .u64 (M.nu v.2.2.2.1.1.2)) ∧ X.cell? ⟨w.heap.size, 6, none⟩ = some (.int .u64 (M.nu v.2.2.2.1.2.1)) ∧ X.cell? ⟨w.heap.size, 7, none⟩ = some (.int .u64 (M.nu v.2.2.2.1.2.2)) ∧ X.cell? ⟨w.heap.size, 8, none⟩ = some (.int .i64 v.2.2.2.2)) (go_keep)
      (first | (go_at_call 18; refine (cloneT_any A HL.out _ _ U1.drew).mono ?_; rintro r w2 ⟨v', rfl, ho2, hb2⟩; have XZ2 := XD.out.below hb2; have YV2 := (YD.out.below hb2).cells; obtain ⟨z0, z1, z2, z3, z4, z5, z6, z7, z8⟩ := XZ2.cells; obtain ⟨f0, f1, f2, f3, f4, f5, f6, f7, f8⟩ := XZ2.frozen; have O2 := hidq ho2; have B2 := hidq (below_trans BD.out hb2); clear ho2 hb2 XZ2))
    all_goals go_wp2
    all_goals refine bodyPost_ret (v := .tuple #[.agg #[.bool _, .bool _, .int .u64 _, .int .u64 _, .int .u64 _, .int .u64 _, .int .u64 _, .int .u64 _, .int .i64 _], _, .int .i64 _]) (by simp [results, Tryz.results90, go_sem, z0, z1, z2, z3, z4, z5, z6, z7, z8]) rfl ⟨_, rfl, own_lowerq (own_set9 O2.out (by have := S1.out; show _ < w1.heap.size; omega) _ _ _ _ _ _ _ _ _) (by have := S1.out; show _ ≤ w1.heap.size; omega), below_set9 B2.out (by omega) _ _ _ _ _ _ _ _ _⟩
  · rw [if_neg hA] at h
    simp only [Prod.mk.injEq] at h
    obtain ⟨rfl, rfl, rfl⟩ := h
    have HE := hidq (show M.chkE A = 1 from if_neg hA)
    rw [zV_eq]
    clear u hA
    go_enter Tryz.func90, Tryz.ntmps90
    go_wp2_with (first | (go_at_call 14; refine (check_eq HE.out _ U0.out).mono ?_; rintro e w1 ⟨rfl, hb1⟩; have XZ := X0.out.below hb1; obtain ⟨c0, c1, c2, c3, c4, c5, c6, c7, c8⟩ := XZ.cells; obtain ⟨f0, f1, f2, f3, f4, f5, f6, f7, f8⟩ := XZ.frozen; have B1 := hidq (below_trans B0.out hb1); clear hb1 XZ))
    refine bodyPost_ret (v := .tuple #[.agg #[.bool _, .bool _, .int .u64 _, .int .u64 _, .int .u64 _, .int .u64 _, .int .u64 _, .int .u64 _, .int .i64 _], _, .int .i64 _]) (by simp [results, Tryz.results90, go_sem, c0, c1, c2, c3, c4, c5, c6, c7, c8]) rfl ⟨_, rfl, World.ownsRow_nil _ _ _ _, below_set9 B1.out (by omega) _ _ _ _ _ _ _ _ _⟩
end Go.Proofs.YthmiekinjfaflaaGreat
namespace Go.Proofs.YthmiekinjfaflaaGreat
open Go.RowKit
theorem fit3 {a b c : Int} (h1 : M.fitI a) (h2 : M.fitI b) (h3 : M.fitI c) : M.fitT (a, b, c) := ⟨h1, h2, h3⟩
theorem fit_lit {a : Int} (h : -9223372036854775808 ≤ a) (h2 : a ≤ 9223372036854775807) : M.fitI a := ⟨h, h2⟩
set_option maxRecDepth 100000 in
set_option maxHeartbeats 4000000 in
theorem check7_eq {A : List M.Tm} {v : M.Val} {n : Int} (h : M.chkV A v = n) {vl : Value} (w : World) (u : Ts w vl A) :
    Calls Tryz.prog 72 #[vl, (.agg #[.bool v.1, .bool v.2.1, .int .u64 (M.nu v.2.2.1.1), .int .u64 (M.nu v.2.2.1.2), .int .u64 (M.nu v.2.2.2.1.1.1), .int .u64 (M.nu v.2.2.2.1.1.2), .int .u64 (M.nu v.2.2.2.1.2.1), .int .u64 (M.nu v.2.2.2.1.2.2), .int .i64 v.2.2.2.2])] w fun e w' => e = .returned (.int .i64 n) ∧ Below w.heap.size w w' := by
  have VB := hidq (vs_one (w.alloc (.cells #[.bool v.1, .bool v.2.1, .int .u64 (M.nu v.2.2.1.1), .int .u64 (M.nu v.2.2.1.2), .int .u64 (M.nu v.2.2.2.1.1.1), .int .u64 (M.nu v.2.2.2.1.1.2), .int .u64 (M.nu v.2.2.2.1.2.1), .int .u64 (M.nu v.2.2.2.1.2.2), .int .i64 v.2.2.2.2] 29)) _ rfl v)
  rw [World.size_alloc] at VB
  have UB := hidq ((u.alloc (.cells #[.bool v.1, .bool v.2.1, .int .u64 (M.nu v.2.2.1.1), .int .u64 (M.nu v.2.2.1.2), .int .u64 (M.nu v.2.2.2.1.1.1), .int .u64 (M.nu v.2.2.2.1.1.2), .int .u64 (M.nu v.2.2.2.1.2.1), .int .u64 (M.nu v.2.2.2.1.2.2), .int .i64 v.2.2.2.2] 29)).alloc (.cells #[.bool v.1, .bool v.2.1, .int .u64 (M.nu v.2.2.1.1), .int .u64 (M.nu v.2.2.1.2), .int .u64 (M.nu v.2.2.2.1.1.1), .int .u64 (M.nu v.2.2.2.1.1.2), .int .u64 (M.nu v.2.2.2.1.2.1), .int .u64 (M.nu v.2.2.2.1.2.2), .int .i64 v.2.2.2.2] 29))
  have BB := hidq (show Below w.heap.size w ((w.alloc (.cells #[.bool v.1, .bool v.2.1, .int .u64 (M.nu v.2.2.1.1), .int .u64 (M.nu v.2.2.1.2), .int .u64 (M.nu v.2.2.2.1.1.1), .int .u64 (M.nu v.2.2.2.1.1.2), .int .u64 (M.nu v.2.2.2.1.2.1), .int .u64 (M.nu v.2.2.2.1.2.2), .int .i64 v.2.2.2.2] 29)).alloc (.cells #[.bool v.1, .bool v.2.1, .int .u64 (M.nu v.2.2.1.1), .int .u64 (M.nu v.2.2.1.2), .int .u64 (M.nu v.2.2.2.1.1.1), .int .u64 (M.nu v.2.2.2.1.1.2), .int .u64 (M.nu v.2.2.2.1.2.1), .int .u64 (M.nu v.2.2.2.1.2.2), .int .i64 v.2.2.2.2] 29)) from below_one (below_one (Below.refl _ _)))
  have MB := hidq (M.mbs_one (A := A) (v := v))
  obtain ⟨m, hm⟩ : ∃ m, M.mb A v = m := ⟨_, rfl⟩
  rw [hm] at MB
  clear u
  cases m with
  | true =>
    have HC := hidq (show M.chkE A = n by rw [← h]; unfold M.chkE M.chkV; by_cases hA : M.Ok A <;> simp [hA, hm])
    clear h hm
    go_enter Tryz.func72, Tryz.ntmps72
    go_wp2_with (first | (go_at_call 87; refine (mayBe7_eq MB.out _ UB.out VB.out).mono ?_; rintro e w1 ⟨rfl, hb1⟩; have U1 := hidq (UB.out.below hb1); have B1 := hidq (below_trans BB.out hb1); clear hb1) | (go_at_call 14; refine (check_eq HC.out _ U1.out).mono ?_; rintro e w2 ⟨rfl, hb2⟩; have B2 := hidq (below_trans B1.out hb2); clear hb2))
    go_ret
    exact ⟨rfl, B2.out⟩
  | false =>
    obtain rfl : 1 = n := by rw [← h]; unfold M.chkV; rw [if_neg fun h => by rw [hm] at h; cases h.2]
    clear h hm
    go_enter Tryz.func72, Tryz.ntmps72
    go_wp2_with (first | (go_at_call 87; refine (mayBe7_eq MB.out _ UB.out VB.out).mono ?_; rintro e w1 ⟨rfl, hb1⟩; have B1 := hidq (below_trans BB.out hb1); clear hb1))
    go_ret
    exact ⟨rfl, B1.out⟩
end Go.Proofs.YthmiekinjfaflaaGreat
namespace Go.Proofs.YthmiekinjfaflaaGreat
open Go.RowKit
set_option maxRecDepth 100000 in
set_option maxHeartbeats 4000000 in
theorem part_no {A : List M.Tm} {v : M.Val} {i : Int} (h : ¬ M.PartOk A v i) {vl : Value} (w : World) (u : Ts w vl A) :
    Calls Tryz.prog 75 #[vl, (.agg #[.bool v.1, .bool v.2.1, .int .u64 (M.nu v.2.2.1.1), .int .u64 (M.nu v.2.2.1.2), .int .u64 (M.nu v.2.2.2.1.1.1), .int .u64 (M.nu v.2.2.2.1.1.2), .int .u64 (M.nu v.2.2.2.1.2.1), .int .u64 (M.nu v.2.2.2.1.2.2), .int .i64 v.2.2.2.2]), .int .i64 i] w fun e w' => ∃ v', e = .returned (.tuple #[(.agg #[.bool M.zV.1, .bool M.zV.2.1, .int .u64 (M.nu M.zV.2.2.1.1), .int .u64 (M.nu M.zV.2.2.1.2), .int .u64 (M.nu M.zV.2.2.2.1.1.1), .int .u64 (M.nu M.zV.2.2.2.1.1.2), .int .u64 (M.nu M.zV.2.2.2.1.2.1), .int .u64 (M.nu M.zV.2.2.2.1.2.2), .int .i64 M.zV.2.2.2.2]), v', .int .i64 1]) ∧ w'.ownsRow w.heap.size 39 3 v' 0 (elTm.cells []) ∧ Below w.heap.size w w' := by
  rw [zV_eq]
  have VB := hidq (vs_one ((w.alloc (.cells #[.bool v.1, .bool v.2.1, .int .u64 (M.nu v.2.2.1.1), .int .u64 (M.nu v.2.2.1.2), .int .u64 (M.nu v.2.2.2.1.1.1), .int .u64 (M.nu v.2.2.2.1.1.2), .int .u64 (M.nu v.2.2.2.1.2.1), .int .u64 (M.nu v.2.2.2.1.2.2), .int .i64 v.2.2.2.2] 29)).alloc (.cells #[.bool false, .bool false, .int .u64 0, .int .u64 0, .int .u64 0, .int .u64 0, .int .u64 0, .int .u64 0, .int .i64 0] 29)) _ rfl v)
  rw [World.size_alloc, World.size_alloc] at VB
  have XZ := hidq ((zbox (w.alloc (.cells #[.bool v.1, .bool v.2.1, .int .u64 (M.nu v.2.2.1.1), .int .u64 (M.nu v.2.2.1.2), .int .u64 (M.nu v.2.2.2.1.1.1), .int .u64 (M.nu v.2.2.2.1.1.2), .int .u64 (M.nu v.2.2.2.1.2.1), .int .u64 (M.nu v.2.2.2.1.2.2), .int .i64 v.2.2.2.2] 29))).alloc (.cells #[.bool v.1, .bool v.2.1, .int .u64 (M.nu v.2.2.1.1), .int .u64 (M.nu v.2.2.1.2), .int .u64 (M.nu v.2.2.2.1.1.1), .int .u64 (M.nu v.2.2.2.1.1.2), .int .u64 (M.nu v.2.2.2.1.2.1), .int .u64 (M.nu v.2.2.2.1.2.2), .int .i64 v.2.2.2.2] 29))
  rw [World.size_alloc] at XZ
  have XV := hidq (((Bx9.new w v).alloc (.cells #[.bool false, .bool false, .int .u64 0, .int .u64 0, .int .u64 0, .int .u64 0, .int .u64 0, .int .u64 0, .int .i64 0] 29)).alloc (.cells #[.bool v.1, .bool v.2.1, .int .u64 (M.nu v.2.2.1.1), .int .u64 (M.nu v.2.2.1.2), .int .u64 (M.nu v.2.2.2.1.1.1), .int .u64 (M.nu v.2.2.2.1.1.2), .int .u64 (M.nu v.2.2.2.1.2.1), .int .u64 (M.nu v.2.2.2.1.2.2), .int .i64 v.2.2.2.2] 29))
  have UB := hidq (((u.alloc (.cells #[.bool v.1, .bool v.2.1, .int .u64 (M.nu v.2.2.1.1), .int .u64 (M.nu v.2.2.1.2), .int .u64 (M.nu v.2.2.2.1.1.1), .int .u64 (M.nu v.2.2.2.1.1.2), .int .u64 (M.nu v.2.2.2.1.2.1), .int .u64 (M.nu v.2.2.2.1.2.2), .int .i64 v.2.2.2.2] 29)).alloc (.cells #[.bool false, .bool false, .int .u64 0, .int .u64 0, .int .u64 0, .int .u64 0, .int .u64 0, .int .u64 0, .int .i64 0] 29)).alloc (.cells #[.bool v.1, .bool v.2.1, .int .u64 (M.nu v.2.2.1.1), .int .u64 (M.nu v.2.2.1.2), .int .u64 (M.nu v.2.2.2.1.1.1), .int .u64 (M.nu v.2.2.2.1.1.2), .int .u64 (M.nu v.2.2.2.1.2.1), .int .u64 (M.nu v.2.2.2.1.2.2), .int .i64 v.2.2.2.2] 29))
  have BB := hidq (show Below w.heap.size w (((w.alloc (.cells #[.bool v.1, .bool v.2.1, .int .u64 (M.nu v.2.2.1.1), .int .u64 (M.nu v.2.2.1.2), .int .u64 (M.nu v.2.2.2.1.1.1), .int .u64 (M.nu v.2.2.2.1.1.2), .int .u64 (M.nu v.2.2.2.1.2.1), .int .u64 (M.nu v.2.2.2.1.2.2), .int .i64 v.2.2.2.2] 29)).alloc (.cells #[.bool false, .bool false, .int .u64 0, .int .u64 0, .int .u64 0, .int .u64 0, .int .u64 0, .int .u64 0, .int .i64 0] 29)).alloc (.cells #[.bool v.1, .bool v.2.1, .int .u64 (M.nu v.2.2.1.1), .int .u64 (M.nu v.2.2.1.2), .int .u64 (M.nu v.2.2.2.1.1.1), .int .u64 (M.nu v.2.2.2.1.1.2), .int .u64 (M.nu v.2.2.2.1.2.1), .int .u64 (M.nu v.2.2.2.1.2.2), .int .i64 v.2.2.2.2] 29)) from below_one (below_one (below_one (Below.refl _ _))))
  obtain ⟨m, hm⟩ : ∃ m, M.mb A v = m := ⟨_, rfl⟩
  have HM := hidq (M.mbs_one (A := A) (v := v))
  rw [hm] at HM
  clear u
  cases m with
  | false =>
    clear h hm
    go_enter Tryz.func75, Tryz.ntmps75
    go_wp2_with (first | (go_at_call 87; refine (mayBe7_eq HM.out _ UB.out VB.out).mono ?_; rintro e w1 ⟨rfl, hb1⟩; have XW := XZ.out.below hb1; obtain ⟨c0, c1, c2, c3, c4, c5, c6, c7, c8⟩ := XW.cells; obtain ⟨f0, f1, f2, f3, f4, f5, f6, f7, f8⟩ := XW.frozen; have XZ1 := hidq XW; have XV1 := hidq (XV.out.below hb1); have cv1 := XV1.out.cells; have U1 := hidq (UB.out.below hb1); have B1 := hidq (below_trans BB.out hb1); clear hb1 XW))
    refine bodyPost_ret (v := .tuple #[.agg #[.bool _, .bool _, .int .u64 _, .int .u64 _, .int .u64 _, .int .u64 _, .int .u64 _, .int .u64 _, .int .i64 _], _, .int .i64 _]) (by simp [results, go_sem, c0, c1, c2, c3, c4, c5, c6, c7, c8, Tryz.results75]) rfl ⟨_, rfl, World.ownsRow_nil _ _ _ _, below_set9 B1.out (by omega) _ _ _ _ _ _ _ _ _⟩
  | true =>
    have HV := hidq (M.mb_iff.1 hm).2
    obtain ⟨s, hs⟩ : ∃ s, M.sld A v = s := ⟨_, rfl⟩
    have SC := hidq (fun W (u : Ts W vl A) => isSealed_eq hs HV.out W u)
    cases s with
    | true =>
      clear h hm hs
      go_enter Tryz.func75, Tryz.ntmps75
      go_wp2_with (first | (go_at_call 87; refine (mayBe7_eq HM.out _ UB.out VB.out).mono ?_; rintro e w1 ⟨rfl, hb1⟩; have XW := XZ.out.below hb1; obtain ⟨c0, c1, c2, c3, c4, c5, c6, c7, c8⟩ := XW.cells; obtain ⟨f0, f1, f2, f3, f4, f5, f6, f7, f8⟩ := XW.frozen; have XZ1 := hidq XW; have XV1 := hidq (XV.out.below hb1); have cv1 := XV1.out.cells; have U1 := hidq (UB.out.below hb1); have B1 := hidq (below_trans BB.out hb1); clear hb1 XW) | (go_at_call 88; refine (SC.out _ U1.out).mono ?_; rintro e w2 ⟨rfl, hb2⟩; have XW := XZ1.out.below hb2; obtain ⟨c0, c1, c2, c3, c4, c5, c6, c7, c8⟩ := XW.cells; obtain ⟨f0, f1, f2, f3, f4, f5, f6, f7, f8⟩ := XW.frozen; have XZ2 := hidq XW; have XV2 := hidq (XV1.out.below hb2); have cv2 := XV2.out.cells; have U2 := hidq (U1.out.below hb2); have B2 := hidq (below_trans B1.out hb2); clear hb2 XW))
      refine bodyPost_ret (v := .tuple #[.agg #[.bool _, .bool _, .int .u64 _, .int .u64 _, .int .u64 _, .int .u64 _, .int .u64 _, .int .u64 _, .int .i64 _], _, .int .i64 _]) (by simp [results, go_sem, c0, c1, c2, c3, c4, c5, c6, c7, c8, Tryz.results75]) rfl ⟨_, rfl, World.ownsRow_nil _ _ _ _, below_set9 B2.out (by omega) _ _ _ _ _ _ _ _ _⟩
    | false =>
      by_cases h0 : i < 0
      · clear h hm hs
        go_enter Tryz.func75, Tryz.ntmps75
        go_wp2_with (first | (go_at_call 87; refine (mayBe7_eq HM.out _ UB.out VB.out).mono ?_; rintro e w1 ⟨rfl, hb1⟩; have XW := XZ.out.below hb1; obtain ⟨c0, c1, c2, c3, c4, c5, c6, c7, c8⟩ := XW.cells; obtain ⟨f0, f1, f2, f3, f4, f5, f6, f7, f8⟩ := XW.frozen; have XZ1 := hidq XW; have XV1 := hidq (XV.out.below hb1); have cv1 := XV1.out.cells; have U1 := hidq (UB.out.below hb1); have B1 := hidq (below_trans BB.out hb1); clear hb1 XW) | (go_at_call 88; refine (SC.out _ U1.out).mono ?_; rintro e w2 ⟨rfl, hb2⟩; have XW := XZ1.out.below hb2; obtain ⟨c0, c1, c2, c3, c4, c5, c6, c7, c8⟩ := XW.cells; obtain ⟨f0, f1, f2, f3, f4, f5, f6, f7, f8⟩ := XW.frozen; have XZ2 := hidq XW; have XV2 := hidq (XV1.out.below hb2); have cv2 := XV2.out.cells; have U2 := hidq (U1.out.below hb2); have B2 := hidq (below_trans B1.out hb2); clear hb2 XW))
        refine bodyPost_ret (v := .tuple #[.agg #[.bool _, .bool _, .int .u64 _, .int .u64 _, .int .u64 _, .int .u64 _, .int .u64 _, .int .u64 _, .int .i64 _], _, .int .i64 _]) (by simp [results, go_sem, c0, c1, c2, c3, c4, c5, c6, c7, c8, Tryz.results75]) rfl ⟨_, rfl, World.ownsRow_nil _ _ _ _, below_set9 B2.out (by omega) _ _ _ _ _ _ _ _ _⟩
      · have h2 : 2 < i := by
          by_cases h2 : 2 < i
          · exact h2
          · exact absurd ⟨hm, hs, by omega, by omega⟩ h
        clear h hm hs
        go_enter Tryz.func75, Tryz.ntmps75
        go_wp2_with (first | (go_at_call 87; refine (mayBe7_eq HM.out _ UB.out VB.out).mono ?_; rintro e w1 ⟨rfl, hb1⟩; have XW := XZ.out.below hb1; obtain ⟨c0, c1, c2, c3, c4, c5, c6, c7, c8⟩ := XW.cells; obtain ⟨f0, f1, f2, f3, f4, f5, f6, f7, f8⟩ := XW.frozen; have XZ1 := hidq XW; have XV1 := hidq (XV.out.below hb1); have cv1 := XV1.out.cells; have U1 := hidq (UB.out.below hb1); have B1 := hidq (below_trans BB.out hb1); clear hb1 XW) | (go_at_call 88; refine (SC.out _ U1.out).mono ?_; rintro e w2 ⟨rfl, hb2⟩; have XW := XZ1.out.below hb2; obtain ⟨c0, c1, c2, c3, c4, c5, c6, c7, c8⟩ := XW.cells; obtain ⟨f0, f1, f2, f3, f4, f5, f6, f7, f8⟩ := XW.frozen; have XZ2 := hidq XW; have XV2 := hidq (XV1.out.below hb2); have cv2 := XV2.out.cells; have U2 := hidq (U1.out.below hb2); have B2 := hidq (below_trans B1.out hb2); clear hb2 XW))
        refine bodyPost_ret (v := .tuple #[.agg #[.bool _, .bool _, .int .u64 _, .int .u64 _, .int .u64 _, .int .u64 _, .int .u64 _, .int .u64 _, .int .i64 _], _, .int .i64 _]) (by simp [results, go_sem, c0, c1, c2, c3, c4, c5, c6, c7, c8, Tryz.results75]) rfl ⟨_, rfl, World.ownsRow_nil _ _ _ _, below_set9 B2.out (by omega) _ _ _ _ _ _ _ _ _⟩
set_option maxRecDepth 100000 in
set_option maxHeartbeats 4000000 in
theorem part_sym {A : List M.Tm} {l : Bool} {b : M.Blk} {q : M.Sea} {t : Int} {i : Int} (ht : M.fitI t) (h : M.PartOk A (true, l, b, q, t) i) {x : M.Val} {L : List M.Tm} {n : Int} (hx : M.mkT A (2 + i, t, 0) = (x, L, n)) {vl : Value} (w : World) (u : Ts w vl A) :
    Calls Tryz.prog 75 #[vl, (.agg #[.bool (true, l, b, q, t).1, .bool (true, l, b, q, t).2.1, .int .u64 (M.nu (true, l, b, q, t).2.2.1.1), .int .u64 (M.nu (true, l, b, q, t).2.2.1.2), .int .u64 (M.nu (true, l, b, q, t).2.2.2.1.1.1), .int .u64 (M.nu (true, l, b, q, t).2.2.2.1.1.2), .int .u64 (M.nu (true, l, b, q, t).2.2.2.1.2.1), .int .u64 (M.nu (true, l, b, q, t).2.2.2.1.2.2), .int .i64 (true, l, b, q, t).2.2.2.2]), .int .i64 i] w fun e w' => ∃ v', e = .returned (.tuple #[(.agg #[.bool x.1, .bool x.2.1, .int .u64 (M.nu x.2.2.1.1), .int .u64 (M.nu x.2.2.1.2), .int .u64 (M.nu x.2.2.2.1.1.1), .int .u64 (M.nu x.2.2.2.1.1.2), .int .u64 (M.nu x.2.2.2.1.2.1), .int .u64 (M.nu x.2.2.2.1.2.2), .int .i64 x.2.2.2.2]), v', .int .i64 n]) ∧ w'.ownsRow w.heap.size 39 3 v' L.length (elTm.cells L) ∧ Below w.heap.size w w' := by
  obtain ⟨hm, hs, h0, h2⟩ := h
  have VB := hidq (vs_one ((w.alloc (.cells #[.bool (true, l, b, q, t).1, .bool (true, l, b, q, t).2.1, .int .u64 (M.nu (true, l, b, q, t).2.2.1.1), .int .u64 (M.nu (true, l, b, q, t).2.2.1.2), .int .u64 (M.nu (true, l, b, q, t).2.2.2.1.1.1), .int .u64 (M.nu (true, l, b, q, t).2.2.2.1.1.2), .int .u64 (M.nu (true, l, b, q, t).2.2.2.1.2.1), .int .u64 (M.nu (true, l, b, q, t).2.2.2.1.2.2), .int .i64 (true, l, b, q, t).2.2.2.2] 29)).alloc (.cells #[.bool false, .bool false, .int .u64 0, .int .u64 0, .int .u64 0, .int .u64 0, .int .u64 0, .int .u64 0, .int .i64 0] 29)) _ rfl (true, l, b, q, t))
  rw [World.size_alloc, World.size_alloc] at VB
  have XZ := hidq ((zbox (w.alloc (.cells #[.bool (true, l, b, q, t).1, .bool (true, l, b, q, t).2.1, .int .u64 (M.nu (true, l, b, q, t).2.2.1.1), .int .u64 (M.nu (true, l, b, q, t).2.2.1.2), .int .u64 (M.nu (true, l, b, q, t).2.2.2.1.1.1), .int .u64 (M.nu (true, l, b, q, t).2.2.2.1.1.2), .int .u64 (M.nu (true, l, b, q, t).2.2.2.1.2.1), .int .u64 (M.nu (true, l, b, q, t).2.2.2.1.2.2), .int .i64 (true, l, b, q, t).2.2.2.2] 29))).alloc (.cells #[.bool (true, l, b, q, t).1, .bool (true, l, b, q, t).2.1, .int .u64 (M.nu (true, l, b, q, t).2.2.1.1), .int .u64 (M.nu (true, l, b, q, t).2.2.1.2), .int .u64 (M.nu (true, l, b, q, t).2.2.2.1.1.1), .int .u64 (M.nu (true, l, b, q, t).2.2.2.1.1.2), .int .u64 (M.nu (true, l, b, q, t).2.2.2.1.2.1), .int .u64 (M.nu (true, l, b, q, t).2.2.2.1.2.2), .int .i64 (true, l, b, q, t).2.2.2.2] 29))
  rw [World.size_alloc] at XZ
  have XV := hidq (((Bx9.new w (true, l, b, q, t)).alloc (.cells #[.bool false, .bool false, .int .u64 0, .int .u64 0, .int .u64 0, .int .u64 0, .int .u64 0, .int .u64 0, .int .i64 0] 29)).alloc (.cells #[.bool (true, l, b, q, t).1, .bool (true, l, b, q, t).2.1, .int .u64 (M.nu (true, l, b, q, t).2.2.1.1), .int .u64 (M.nu (true, l, b, q, t).2.2.1.2), .int .u64 (M.nu (true, l, b, q, t).2.2.2.1.1.1), .int .u64 (M.nu (true, l, b, q, t).2.2.2.1.1.2), .int .u64 (M.nu (true, l, b, q, t).2.2.2.1.2.1), .int .u64 (M.nu (true, l, b, q, t).2.2.2.1.2.2), .int .i64 (true, l, b, q, t).2.2.2.2] 29))
  have UB := hidq (((u.alloc (.cells #[.bool (true, l, b, q, t).1, .bool (true, l, b, q, t).2.1, .int .u64 (M.nu (true, l, b, q, t).2.2.1.1), .int .u64 (M.nu (true, l, b, q, t).2.2.1.2), .int .u64 (M.nu (true, l, b, q, t).2.2.2.1.1.1), .int .u64 (M.nu (true, l, b, q, t).2.2.2.1.1.2), .int .u64 (M.nu (true, l, b, q, t).2.2.2.1.2.1), .int .u64 (M.nu (true, l, b, q, t).2.2.2.1.2.2), .int .i64 (true, l, b, q, t).2.2.2.2] 29)).alloc (.cells #[.bool false, .bool false, .int .u64 0, .int .u64 0, .int .u64 0, .int .u64 0, .int .u64 0, .int .u64 0, .int .i64 0] 29)).alloc (.cells #[.bool (true, l, b, q, t).1, .bool (true, l, b, q, t).2.1, .int .u64 (M.nu (true, l, b, q, t).2.2.1.1), .int .u64 (M.nu (true, l, b, q, t).2.2.1.2), .int .u64 (M.nu (true, l, b, q, t).2.2.2.1.1.1), .int .u64 (M.nu (true, l, b, q, t).2.2.2.1.1.2), .int .u64 (M.nu (true, l, b, q, t).2.2.2.1.2.1), .int .u64 (M.nu (true, l, b, q, t).2.2.2.1.2.2), .int .i64 (true, l, b, q, t).2.2.2.2] 29))
  have BB := hidq (show Below w.heap.size w (((w.alloc (.cells #[.bool (true, l, b, q, t).1, .bool (true, l, b, q, t).2.1, .int .u64 (M.nu (true, l, b, q, t).2.2.1.1), .int .u64 (M.nu (true, l, b, q, t).2.2.1.2), .int .u64 (M.nu (true, l, b, q, t).2.2.2.1.1.1), .int .u64 (M.nu (true, l, b, q, t).2.2.2.1.1.2), .int .u64 (M.nu (true, l, b, q, t).2.2.2.1.2.1), .int .u64 (M.nu (true, l, b, q, t).2.2.2.1.2.2), .int .i64 (true, l, b, q, t).2.2.2.2] 29)).alloc (.cells #[.bool false, .bool false, .int .u64 0, .int .u64 0, .int .u64 0, .int .u64 0, .int .u64 0, .int .u64 0, .int .i64 0] 29)).alloc (.cells #[.bool (true, l, b, q, t).1, .bool (true, l, b, q, t).2.1, .int .u64 (M.nu (true, l, b, q, t).2.2.1.1), .int .u64 (M.nu (true, l, b, q, t).2.2.1.2), .int .u64 (M.nu (true, l, b, q, t).2.2.2.1.1.1), .int .u64 (M.nu (true, l, b, q, t).2.2.2.1.1.2), .int .u64 (M.nu (true, l, b, q, t).2.2.2.1.2.1), .int .u64 (M.nu (true, l, b, q, t).2.2.2.1.2.2), .int .i64 (true, l, b, q, t).2.2.2.2] 29)) from below_one (below_one (below_one (Below.refl _ _))))
  have HM := hidq (M.mbs_one (A := A) (v := (true, l, b, q, t)))
  rw [hm] at HM
  have HV := hidq (M.mb_iff.1 hm).2
  have SC := hidq (fun W (u : Ts W vl A) => isSealed_eq hs HV.out W u)
  have HX := hidq hx
  have HF := hidq (show M.fitT (2 + i, t, 0) from fit3 (fit_lit (by omega) (by omega)) ht (fit_lit (by decide) (by decide)))
  have hw : IntKind.i64.wrap (2 + i) = 2 + i := by rw [IntKind.wrap_i64]; omega
  have g0 : ¬ i < 0 := by omega
  have g2 : ¬ 2 < i := by omega
  clear hm hs hx u ht HV
  dsimp only at VB XZ XV UB BB SC ⊢
  go_enter Tryz.func75, Tryz.ntmps75
  go_wp2_with (first | (go_at_call 87; refine (mayBe7_eq HM.out _ UB.out VB.out).mono ?_; rintro e w1 ⟨rfl, hb1⟩; have XW := XZ.out.below hb1; obtain ⟨c0, c1, c2, c3, c4, c5, c6, c7, c8⟩ := XW.cells; obtain ⟨f0, f1, f2, f3, f4, f5, f6, f7, f8⟩ := XW.frozen; have XZ1 := hidq XW; have XV1 := hidq (XV.out.below hb1); have cv1 := XV1.out.cells; have U1 := hidq (UB.out.below hb1); have B1 := hidq (below_trans BB.out hb1); clear hb1 XW) | (go_at_call 88; refine (SC.out _ U1.out).mono ?_; rintro e w2 ⟨rfl, hb2⟩; have XW := XZ1.out.below hb2; obtain ⟨c0, c1, c2, c3, c4, c5, c6, c7, c8⟩ := XW.cells; obtain ⟨f0, f1, f2, f3, f4, f5, f6, f7, f8⟩ := XW.frozen; have XZ2 := hidq XW; have XV2 := hidq (XV1.out.below hb2); have cv2 := XV2.out.cells; have U2 := hidq (U1.out.below hb2); have B2 := hidq (below_trans B1.out hb2); clear hb2 XW) | (go_at_call 89; refine (madeTerm_eq (t := (2 + i, t, 0)) HF.out HX.out _ U2.out).mono ?_; rintro e w3 ⟨v', rfl, ho3, hb3⟩; have XW := XZ2.out.below hb3; obtain ⟨c0, c1, c2, c3, c4, c5, c6, c7, c8⟩ := XW.cells; obtain ⟨f0, f1, f2, f3, f4, f5, f6, f7, f8⟩ := XW.frozen; have O3 := hidq ho3; have B3 := hidq (below_trans B2.out hb3); clear ho3 hb3 XW))
  refine bodyPost_ret (v := .tuple #[.agg #[.bool _, .bool _, .int .u64 _, .int .u64 _, .int .u64 _, .int .u64 _, .int .u64 _, .int .u64 _, .int .i64 _], _, .int .i64 _]) (by simp [results, go_sem, c0, c1, c2, c3, c4, c5, c6, c7, c8, Tryz.results75]) rfl ⟨_, rfl, own_lowerq (own_set9 O3.out XZ2.out.lt _ _ _ _ _ _ _ _ _) B2.out.size, below_set9 B3.out (by omega) _ _ _ _ _ _ _ _ _⟩
set_option maxRecDepth 100000 in
set_option maxHeartbeats 4000000 in
theorem part_oct {A : List M.Tm} {l : Bool} {b : M.Blk} {q : M.Sea} {t : Int} {i : Int} (h : M.PartOk A (false, l, b, q, t) i) {x : M.Val} {L : List M.Tm} {n : Int} (hx : M.mkO A (M.ofB (M.partV b i)) = (x, L, n)) {vl : Value} (w : World) (u : Ts w vl A) :
    Calls Tryz.prog 75 #[vl, (.agg #[.bool (false, l, b, q, t).1, .bool (false, l, b, q, t).2.1, .int .u64 (M.nu (false, l, b, q, t).2.2.1.1), .int .u64 (M.nu (false, l, b, q, t).2.2.1.2), .int .u64 (M.nu (false, l, b, q, t).2.2.2.1.1.1), .int .u64 (M.nu (false, l, b, q, t).2.2.2.1.1.2), .int .u64 (M.nu (false, l, b, q, t).2.2.2.1.2.1), .int .u64 (M.nu (false, l, b, q, t).2.2.2.1.2.2), .int .i64 (false, l, b, q, t).2.2.2.2]), .int .i64 i] w fun e w' => ∃ v', e = .returned (.tuple #[(.agg #[.bool x.1, .bool x.2.1, .int .u64 (M.nu x.2.2.1.1), .int .u64 (M.nu x.2.2.1.2), .int .u64 (M.nu x.2.2.2.1.1.1), .int .u64 (M.nu x.2.2.2.1.1.2), .int .u64 (M.nu x.2.2.2.1.2.1), .int .u64 (M.nu x.2.2.2.1.2.2), .int .i64 x.2.2.2.2]), v', .int .i64 n]) ∧ w'.ownsRow w.heap.size 39 3 v' L.length (elTm.cells L) ∧ Below w.heap.size w w' := by
  obtain ⟨hm, hs, h0, h2⟩ := h
  have VB := hidq (vs_one ((w.alloc (.cells #[.bool (false, l, b, q, t).1, .bool (false, l, b, q, t).2.1, .int .u64 (M.nu (false, l, b, q, t).2.2.1.1), .int .u64 (M.nu (false, l, b, q, t).2.2.1.2), .int .u64 (M.nu (false, l, b, q, t).2.2.2.1.1.1), .int .u64 (M.nu (false, l, b, q, t).2.2.2.1.1.2), .int .u64 (M.nu (false, l, b, q, t).2.2.2.1.2.1), .int .u64 (M.nu (false, l, b, q, t).2.2.2.1.2.2), .int .i64 (false, l, b, q, t).2.2.2.2] 29)).alloc (.cells #[.bool false, .bool false, .int .u64 0, .int .u64 0, .int .u64 0, .int .u64 0, .int .u64 0, .int .u64 0, .int .i64 0] 29)) _ rfl (false, l, b, q, t))
  rw [World.size_alloc, World.size_alloc] at VB
  have XZ := hidq ((zbox (w.alloc (.cells #[.bool (false, l, b, q, t).1, .bool (false, l, b, q, t).2.1, .int .u64 (M.nu (false, l, b, q, t).2.2.1.1), .int .u64 (M.nu (false, l, b, q, t).2.2.1.2), .int .u64 (M.nu (false, l, b, q, t).2.2.2.1.1.1), .int .u64 (M.nu (false, l, b, q, t).2.2.2.1.1.2), .int .u64 (M.nu (false, l, b, q, t).2.2.2.1.2.1), .int .u64 (M.nu (false, l, b, q, t).2.2.2.1.2.2), .int .i64 (false, l, b, q, t).2.2.2.2] 29))).alloc (.cells #[.bool (false, l, b, q, t).1, .bool (false, l, b, q, t).2.1, .int .u64 (M.nu (false, l, b, q, t).2.2.1.1), .int .u64 (M.nu (false, l, b, q, t).2.2.1.2), .int .u64 (M.nu (false, l, b, q, t).2.2.2.1.1.1), .int .u64 (M.nu (false, l, b, q, t).2.2.2.1.1.2), .int .u64 (M.nu (false, l, b, q, t).2.2.2.1.2.1), .int .u64 (M.nu (false, l, b, q, t).2.2.2.1.2.2), .int .i64 (false, l, b, q, t).2.2.2.2] 29))
  rw [World.size_alloc] at XZ
  have XV := hidq (((Bx9.new w (false, l, b, q, t)).alloc (.cells #[.bool false, .bool false, .int .u64 0, .int .u64 0, .int .u64 0, .int .u64 0, .int .u64 0, .int .u64 0, .int .i64 0] 29)).alloc (.cells #[.bool (false, l, b, q, t).1, .bool (false, l, b, q, t).2.1, .int .u64 (M.nu (false, l, b, q, t).2.2.1.1), .int .u64 (M.nu (false, l, b, q, t).2.2.1.2), .int .u64 (M.nu (false, l, b, q, t).2.2.2.1.1.1), .int .u64 (M.nu (false, l, b, q, t).2.2.2.1.1.2), .int .u64 (M.nu (false, l, b, q, t).2.2.2.1.2.1), .int .u64 (M.nu (false, l, b, q, t).2.2.2.1.2.2), .int .i64 (false, l, b, q, t).2.2.2.2] 29))
  have UB := hidq (((u.alloc (.cells #[.bool (false, l, b, q, t).1, .bool (false, l, b, q, t).2.1, .int .u64 (M.nu (false, l, b, q, t).2.2.1.1), .int .u64 (M.nu (false, l, b, q, t).2.2.1.2), .int .u64 (M.nu (false, l, b, q, t).2.2.2.1.1.1), .int .u64 (M.nu (false, l, b, q, t).2.2.2.1.1.2), .int .u64 (M.nu (false, l, b, q, t).2.2.2.1.2.1), .int .u64 (M.nu (false, l, b, q, t).2.2.2.1.2.2), .int .i64 (false, l, b, q, t).2.2.2.2] 29)).alloc (.cells #[.bool false, .bool false, .int .u64 0, .int .u64 0, .int .u64 0, .int .u64 0, .int .u64 0, .int .u64 0, .int .i64 0] 29)).alloc (.cells #[.bool (false, l, b, q, t).1, .bool (false, l, b, q, t).2.1, .int .u64 (M.nu (false, l, b, q, t).2.2.1.1), .int .u64 (M.nu (false, l, b, q, t).2.2.1.2), .int .u64 (M.nu (false, l, b, q, t).2.2.2.1.1.1), .int .u64 (M.nu (false, l, b, q, t).2.2.2.1.1.2), .int .u64 (M.nu (false, l, b, q, t).2.2.2.1.2.1), .int .u64 (M.nu (false, l, b, q, t).2.2.2.1.2.2), .int .i64 (false, l, b, q, t).2.2.2.2] 29))
  have BB := hidq (show Below w.heap.size w (((w.alloc (.cells #[.bool (false, l, b, q, t).1, .bool (false, l, b, q, t).2.1, .int .u64 (M.nu (false, l, b, q, t).2.2.1.1), .int .u64 (M.nu (false, l, b, q, t).2.2.1.2), .int .u64 (M.nu (false, l, b, q, t).2.2.2.1.1.1), .int .u64 (M.nu (false, l, b, q, t).2.2.2.1.1.2), .int .u64 (M.nu (false, l, b, q, t).2.2.2.1.2.1), .int .u64 (M.nu (false, l, b, q, t).2.2.2.1.2.2), .int .i64 (false, l, b, q, t).2.2.2.2] 29)).alloc (.cells #[.bool false, .bool false, .int .u64 0, .int .u64 0, .int .u64 0, .int .u64 0, .int .u64 0, .int .u64 0, .int .i64 0] 29)).alloc (.cells #[.bool (false, l, b, q, t).1, .bool (false, l, b, q, t).2.1, .int .u64 (M.nu (false, l, b, q, t).2.2.1.1), .int .u64 (M.nu (false, l, b, q, t).2.2.1.2), .int .u64 (M.nu (false, l, b, q, t).2.2.2.1.1.1), .int .u64 (M.nu (false, l, b, q, t).2.2.2.1.1.2), .int .u64 (M.nu (false, l, b, q, t).2.2.2.1.2.1), .int .u64 (M.nu (false, l, b, q, t).2.2.2.1.2.2), .int .i64 (false, l, b, q, t).2.2.2.2] 29)) from below_one (below_one (below_one (Below.refl _ _))))
  have HM := hidq (M.mbs_one (A := A) (v := (false, l, b, q, t)))
  rw [hm] at HM
  have HV := hidq (M.mb_iff.1 hm).2
  have SC := hidq (fun W (u : Ts W vl A) => isSealed_eq hs HV.out W u)
  obtain ⟨y, hy⟩ : ∃ y, M.ofB (M.partV b i) = y := ⟨_, rfl⟩
  rw [hy] at hx
  have PC := hidq (fun W => partOf_eq (v := (false, l, b, q, t)) hy W)
  have HX := hidq hx
  have g0 : ¬ i < 0 := by omega
  have g2 : ¬ 2 < i := by omega
  clear hm hs hx u HV hy
  dsimp only at VB XZ XV UB BB SC PC ⊢
  go_enter Tryz.func75, Tryz.ntmps75
  go_wp2_with (first | (go_at_call 87; refine (mayBe7_eq HM.out _ UB.out VB.out).mono ?_; rintro e w1 ⟨rfl, hb1⟩; have XW := XZ.out.below hb1; obtain ⟨c0, c1, c2, c3, c4, c5, c6, c7, c8⟩ := XW.cells; obtain ⟨f0, f1, f2, f3, f4, f5, f6, f7, f8⟩ := XW.frozen; have XZ1 := hidq XW; have XV1 := hidq (XV.out.below hb1); have cv1 := XV1.out.cells; have U1 := hidq (UB.out.below hb1); have B1 := hidq (below_trans BB.out hb1); clear hb1 XW) | (go_at_call 88; refine (SC.out _ U1.out).mono ?_; rintro e w2 ⟨rfl, hb2⟩; have XW := XZ1.out.below hb2; obtain ⟨c0, c1, c2, c3, c4, c5, c6, c7, c8⟩ := XW.cells; obtain ⟨f0, f1, f2, f3, f4, f5, f6, f7, f8⟩ := XW.frozen; have XZ2 := hidq XW; have XV2 := hidq (XV1.out.below hb2); have cv2 := XV2.out.cells; have U2 := hidq (U1.out.below hb2); have B2 := hidq (below_trans B1.out hb2); clear hb2 XW) | (go_at_call 91; refine (PC.out _).mono ?_; rintro e w3 ⟨rfl, hb3⟩; have XZ3 := hidq (XZ2.out.below hb3); have U3 := hidq (U2.out.below hb3); have B3 := hidq (below_trans B2.out hb3); clear hb3) | (go_at_call 90; refine (madeOctets_eq HX.out _ U3.out).mono ?_; rintro e w4 ⟨v', rfl, ho4, hb4⟩; have XW := XZ3.out.below hb4; obtain ⟨c0, c1, c2, c3, c4, c5, c6, c7, c8⟩ := XW.cells; obtain ⟨f0, f1, f2, f3, f4, f5, f6, f7, f8⟩ := XW.frozen; have O4 := hidq ho4; have B4 := hidq (below_trans B3.out hb4); clear ho4 hb4 XW))
  refine bodyPost_ret (v := .tuple #[.agg #[.bool _, .bool _, .int .u64 _, .int .u64 _, .int .u64 _, .int .u64 _, .int .u64 _, .int .u64 _, .int .i64 _], _, .int .i64 _]) (by simp [results, go_sem, c0, c1, c2, c3, c4, c5, c6, c7, c8, Tryz.results75]) rfl ⟨_, rfl, own_lowerq (own_set9 O4.out XZ3.out.lt _ _ _ _ _ _ _ _ _) B3.out.size, below_set9 B4.out (by omega) _ _ _ _ _ _ _ _ _⟩
set_option maxRecDepth 100000 in
theorem vpart_eq {A : List M.Tm} {v : M.Val} {i : Int} (hv : M.fitI v.2.2.2.2) {x : M.Val} {L : List M.Tm} {n : Int} (h : M.partA A v i = (x, L, n)) {vl : Value} (w : World) (u : Ts w vl A) :
    Calls Tryz.prog 75 #[vl, (.agg #[.bool v.1, .bool v.2.1, .int .u64 (M.nu v.2.2.1.1), .int .u64 (M.nu v.2.2.1.2), .int .u64 (M.nu v.2.2.2.1.1.1), .int .u64 (M.nu v.2.2.2.1.1.2), .int .u64 (M.nu v.2.2.2.1.2.1), .int .u64 (M.nu v.2.2.2.1.2.2), .int .i64 v.2.2.2.2]), .int .i64 i] w fun e w' => ∃ v', e = .returned (.tuple #[(.agg #[.bool x.1, .bool x.2.1, .int .u64 (M.nu x.2.2.1.1), .int .u64 (M.nu x.2.2.1.2), .int .u64 (M.nu x.2.2.2.1.1.1), .int .u64 (M.nu x.2.2.2.1.1.2), .int .u64 (M.nu x.2.2.2.1.2.1), .int .u64 (M.nu x.2.2.2.1.2.2), .int .i64 x.2.2.2.2]), v', .int .i64 n]) ∧ w'.ownsRow w.heap.size 39 3 v' L.length (elTm.cells L) ∧ Below w.heap.size w w' := by
  unfold M.partA at h
  by_cases hp : M.PartOk A v i
  · rw [if_pos hp] at h
    obtain ⟨s, l, b, q, t⟩ := v
    cases s with
    | true => rw [if_pos rfl] at h; exact part_sym hv hp h w u
    | false => rw [if_neg (fun h => Bool.noConfusion h)] at h; exact part_oct hp h w u
  · rw [if_neg hp] at h
    simp only [Prod.mk.injEq] at h
    obtain ⟨rfl, rfl, rfl⟩ := h
    exact part_no hp w u
end Go.Proofs.YthmiekinjfaflaaGreat
