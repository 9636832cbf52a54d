/-
  Plain mathematics of a whole binary tree, third part: where two nodes meet, and the node beside one. It imports nothing of the program.
-/
import Derived.Test.YthmiekinjfaflaaGreatZMath
import Derived.Test.YthmiekinjfaflaaGreatZW1
namespace Go.Proofs.YthmiekinjfaflaaGreat
open Go.RowKit
namespace M

theorem xor_zeroT {x y : Nat} : x ^^^ y = 0 ↔ x = y := by
  constructor
  · intro h
    have h2 : x ^^^ y ^^^ y = 0 ^^^ y := by rw [h]
    rw [Nat.xor_assoc, Nat.xor_self, Nat.xor_zero, Nat.zero_xor] at h2
    exact h2
  · intro h; subst h; exact Nat.xor_self x
theorem xr_zero_iff {a b : Int} (ha : 0 ≤ a) (hb : 0 ≤ b) (k : Nat) : xr a b < (2 ^ k : Nat) ↔ a / (2 ^ k : Nat) = b / (2 ^ k : Nat) := by
  obtain ⟨x, rfl⟩ := Int.eq_ofNat_of_zero_le ha
  obtain ⟨y, rfl⟩ := Int.eq_ofNat_of_zero_le hb
  unfold xr
  rw [Int.toNat_natCast, Int.toNat_natCast, ← Int.natCast_ediv, ← Int.natCast_ediv]
  rw [Int.ofNat_lt, Int.ofNat_inj]
  have h1 : (x ^^^ y) < 2 ^ k ↔ (x ^^^ y) / 2 ^ k = 0 := by
    rw [Nat.div_eq_zero_iff]
    simp
  rw [h1, Nat.xor_div_two_pow, xor_zeroT]
theorem bl_zero {a : Int} (h : a = 0) : bl a = 0 := by subst h; rfl
theorem bl_lt {a : Int} (ha : 0 ≤ a) : a < (2 ^ (bl a).toNat : Nat) := by
  have := (bitLen_spec a.toNat).1
  unfold bl; rw [Int.toNat_natCast]; omega
theorem bl_le {a : Int} (ha : 0 ≤ a) (h : a ≠ 0) : 1 ≤ bl a ∧ ((2 ^ ((bl a).toNat - 1) : Nat) : Int) ≤ a := by
  have h1 := (bitLen_spec a.toNat).2 (by omega)
  have h2 : 1 ≤ bitLen a.toNat := by unfold bitLen; rw [if_neg (by omega)]; omega
  unfold bl; rw [Int.toNat_natCast]; omega
theorem p2_cast (k : Int) : p2 k = ((2 ^ k.toNat : Nat) : Int) := by unfold p2; simp

theorem meet1_spec {a b d : Int} (ha : 1 ≤ a) (hb : 1 ≤ b) (hda : dep a = d) (hdb : dep b = d) :
    ∃ e, 0 ≤ e ∧ e ≤ d ∧ meet1 a b = up a e ∧ meet1 a b = up b e ∧ (e < d → up a (e + 1) ≠ up b (e + 1)) := by
  have hd0 : 0 ≤ d := by rw [← hda]; exact dep_nonneg a
  have x0 : 0 ≤ xr a b := by unfold xr; omega
  have hk := bl_lt x0
  rw [xr_zero_iff (by omega) (by omega)] at hk
  have hkd : bl (xr a b) ≤ d := by
    by_cases hz : xr a b = 0
    · rw [bl_zero hz]; exact hd0
    · have h1 := bl_le x0 hz
      by_cases hc : bl (xr a b) ≤ d
      · exact hc
      · exfalso
        have e1 : a / (2 ^ d.toNat : Nat) = 1 := by
          rw [← p2_cast, div_eq (by have := p2_pos d; omega)]
          have := dep_le a ha; have := dep_lt a ha; rw [hda] at *; omega
        have e2 : b / (2 ^ d.toNat : Nat) = 1 := by
          rw [← p2_cast, div_eq (by have := p2_pos d; omega)]
          have := dep_le b hb; have := dep_lt b hb; rw [hdb] at *; omega
        have e3 := (xr_zero_iff (by omega) (by omega) d.toNat).2 (e1.trans e2.symm)
        have e4 : (2 ^ d.toNat : Nat) ≤ 2 ^ ((bl (xr a b)).toNat - 1) := Nat.pow_le_pow_right (by decide) (by omega)
        omega
  have hb0 : 0 ≤ bl (xr a b) := by unfold bl; omega
  refine ⟨d - bl (xr a b), by omega, by omega, ?_, ?_, ?_⟩
  · unfold meet1 up; rw [hda]; congr 2; omega
  · unfold meet1 up; rw [hdb, show d - (d - bl (xr a b)) = bl (xr a b) by omega, p2_cast]; exact hk
  · intro hlt heq
    have hz : xr a b ≠ 0 := by intro hz; rw [bl_zero hz] at hlt; omega
    have h1 := bl_le x0 hz
    unfold up at heq
    rw [hda, hdb, show d - (d - bl (xr a b) + 1) = bl (xr a b) - 1 by omega, p2_cast, ← xr_zero_iff (by omega) (by omega)] at heq
    rw [show (bl (xr a b) - 1).toNat = (bl (xr a b)).toNat - 1 by omega] at heq
    omega
/-- where two meet: the deepest node above both -/
theorem meet_spec {a b : Int} (ha : 1 ≤ a) (hb : 1 ≤ b) :
    ∃ e, 0 ≤ e ∧ e ≤ dep a ∧ e ≤ dep b ∧ meet a b = up a e ∧ meet a b = up b e ∧ (e < dep a → e < dep b → up a (e + 1) ≠ up b (e + 1)) := by
  have a0 := dep_nonneg a
  have b0 := dep_nonneg b
  have hm0 : 0 ≤ min (dep a) (dep b) := by omega
  have hma : min (dep a) (dep b) ≤ dep a := by omega
  have hmb : min (dep a) (dep b) ≤ dep b := by omega
  obtain ⟨e, e0, e1, e2, e3, e4⟩ := meet1_spec (up_pos ha hm0 hma) (up_pos hb hm0 hmb) (up_dep ha hm0 hma) (up_dep hb hm0 hmb)
  refine ⟨e, e0, by omega, by omega, ?_, ?_, ?_⟩
  · unfold meet; rw [e2, up_up ha e0 e1 hma]
  · unfold meet; rw [e3, up_up hb e0 e1 hmb]
  · intro h1 h2
    have := e4 (by omega)
    rw [up_up ha (by omega) (by omega) hma, up_up hb (by omega) (by omega) hmb] at this
    exact this
theorem up_eq_mono {a b d e : Int} (ha : 1 ≤ a) (hb : 1 ≤ b) (he : 0 ≤ e) (hed : e ≤ d) (hda : d ≤ dep a) (hdb : d ≤ dep b) (h : up a d = up b d) : up a e = up b e := by
  rw [← up_up ha he hed hda, ← up_up hb he hed hdb, h]
/-- the deepest common node, told by its depth -/
theorem meet_uniq {a b e : Int} (ha : 1 ≤ a) (hb : 1 ≤ b) (he : 0 ≤ e) (h1 : e ≤ dep a) (h2 : e ≤ dep b) (h3 : up a e = up b e) (h4 : e < dep a → e < dep b → up a (e + 1) ≠ up b (e + 1)) : meet a b = up a e := by
  obtain ⟨f, f0, f1, f2, f3, f4, f5⟩ := meet_spec ha hb
  have : e = f := by
    rcases Int.lt_trichotomy e f with hlt | heq | hgt
    · exfalso
      refine h4 (by omega) (by omega) (up_eq_mono ha hb (by omega) (show e + 1 ≤ f by omega) f1 f2 (f3.symm.trans f4))
    · exact heq
    · exfalso
      refine f5 (by omega) (by omega) (up_eq_mono ha hb (by omega) (show f + 1 ≤ e by omega) h1 h2 h3)
  rw [this, f3]
theorem meet_comm {a b : Int} (ha : 1 ≤ a) (hb : 1 ≤ b) : meet b a = meet a b := by
  obtain ⟨f, f0, f1, f2, f3, f4, f5⟩ := meet_spec ha hb
  rw [f4]
  exact meet_uniq hb ha f0 f2 f1 (f4.symm.trans f3) (fun h1 h2 h3 => f5 h2 h1 h3.symm)
theorem meet_above {a b : Int} (ha : 1 ≤ a) (hb : 1 ≤ b) : 1 ≤ meet a b ∧ abv (meet a b) a = true ∧ abv (meet a b) b = true := by
  obtain ⟨f, f0, f1, f2, f3, f4, f5⟩ := meet_spec ha hb
  refine ⟨by rw [f3]; exact up_pos ha f0 f1, by rw [f3]; exact abv_up ha f0 f1, by rw [f4]; exact abv_up hb f0 f2⟩
theorem ok_meet {h a b : Int} (ha : okB h a = true) (hb : okB h b = true) : okB h (meet a b) = true := by
  obtain ⟨f, f0, f1, f2, f3, f4, f5⟩ := meet_spec (ok_of ha).2.2.1 (ok_of hb).2.2.1
  rw [f3]; exact ok_up ha f0 f1
theorem abv_meet {a b : Int} (ha : 1 ≤ a) (hb : 1 ≤ b) : abv a b = true ↔ meet a b = a := by
  constructor
  · intro h
    obtain ⟨h1, h2⟩ := abv_iff.1 h
    have := meet_uniq (e := dep a) ha hb (dep_nonneg a) (Int.le_refl _) h1 (by rw [up_self, h2]) (fun h => absurd h (by omega))
    rw [this, up_self]
  · intro h
    have := (meet_above ha hb).2.2
    rw [h] at this; exact this
theorem child_dep {n s : Int} (hn : 1 ≤ n) (hs : s = 0 ∨ s = 1) : dep (2 * n + s) = dep n + 1 := by
  have h0 := dep_nonneg n
  rw [dep_iff _ _ (by omega) (by omega), p2_succ _ h0]
  have := dep_le n hn
  have := dep_lt n hn
  omega
/-- no child of where two meet is above both -/
theorem meet_child {a b s : Int} (ha : 1 ≤ a) (hb : 1 ≤ b) (hs : s = 0 ∨ s = 1) : ¬ (abv (2 * meet a b + s) a = true ∧ abv (2 * meet a b + s) b = true) := by
  intro ⟨h1, h2⟩
  obtain ⟨f, f0, f1, f2, f3, f4, f5⟩ := meet_spec ha hb
  have hm := (meet_above ha hb).1
  have hd : dep (meet a b) = f := by rw [f3, up_dep ha f0 f1]
  obtain ⟨g1, g2⟩ := abv_iff.1 h1
  obtain ⟨g3, g4⟩ := abv_iff.1 h2
  rw [child_dep hm hs, hd] at g1 g2 g3 g4
  exact f5 (by omega) (by omega) (g2.trans g4.symm)

theorem oth_facts {n : Int} (hn : 2 ≤ n) : 2 ≤ oth n ∧ oth n ≠ n ∧ oth (oth n) = n ∧ oth n / 2 = n / 2 ∧ dep (oth n) = dep n ∧ 1 ≤ dep n := by
  have h1 : oth n / 2 = n / 2 ∧ 2 ≤ oth n ∧ oth n ≠ n ∧ oth (oth n) = n := by
    unfold oth
    by_cases hc : n % 2 = 0
    · rw [if_pos hc, if_neg (by omega)]; omega
    · rw [if_neg hc, if_pos (by omega)]; omega
  have hd : 1 ≤ dep n := by
    have h0 := dep_nonneg n
    have := dep_lt n (by omega)
    by_cases hc : dep n = 0
    · rw [hc, p2_zero] at this; omega
    · omega
  refine ⟨h1.2.1, h1.2.2.1, h1.2.2.2, h1.1, ?_, hd⟩
  have h3 := dep_le n (by omega)
  have h4 := dep_lt n (by omega)
  have h5 : p2 (dep n) = 2 * p2 (dep n - 1) := by rw [← p2_succ _ (by omega)]; congr 1; omega
  refine (dep_iff _ _ (by omega) (by omega)).2 ?_
  rw [h5] at h3 h4 ⊢
  obtain ⟨h6, h7, _⟩ := h1
  generalize p2 (dep n - 1) = q at *
  generalize oth n = o at *
  omega
theorem up_one {n : Int} : up n (dep n - 1) = n / 2 := by
  unfold up
  rw [show dep n - (dep n - 1) = 1 by omega]; rfl
theorem meet_oth {n : Int} (hn : 2 ≤ n) : meet n (oth n) = up n (dep n - 1) := by
  obtain ⟨o1, o2, o3, o4, o5, o6⟩ := oth_facts hn
  refine meet_uniq (by omega) (by omega) (by omega) (by omega) (by omega) ?_ ?_
  · rw [up_one]
    have := @up_one (oth n)
    rw [o5] at this
    rw [this, o4]
  · intro _ _
    rw [show dep n - 1 + 1 = dep n by omega, up_self]
    have := up_self (oth n)
    rw [o5] at this
    rw [this]; exact fun h => o2 h.symm
theorem ok_oth {h n : Int} (hk : okB h n = true) (hn : n ≠ 1) : okB h (oth n) = true := by
  obtain ⟨k1, k2, k3, k4⟩ := ok_of hk
  obtain ⟨o1, o2, o3, o4, o5, o6⟩ := oth_facts (show 2 ≤ n by omega)
  rw [ok_iff_dep k1 k2 (by omega), o5]
  exact (ok_dep hk).2
/-- two of one depth, not the same, have no leaf together -/
theorem apart_depth {h a b : Int} (ha : okB h a = true) (hb : okB h b = true) (hd : dep a = dep b) (hne : a ≠ b) : high h a < low h b ∨ high h b < low h a := by
  rw [apart_iff ha hb]
  constructor
  · intro h; have := (abv_iff.1 h).2; rw [hd, up_self] at this; exact hne this.symm
  · intro h; have := (abv_iff.1 h).2; rw [← hd, up_self] at this; exact hne this
theorem width_depth {h a b : Int} (hd : dep a = dep b) : high h a - low h a = high h b - low h b := by
  unfold high; rw [hd]; omega
theorem othE_zero {h n : Int} (hE : othE h n = 0) : okB h n = true ∧ n ≠ 1 := by
  unfold othE at hE
  cases hx : okB h n <;> simp [hx] at hE
  exact ⟨rfl, hE⟩
theorem othE_ok {h n : Int} (hk : okB h n = true) (hn : n ≠ 1) : othE h n = 0 := by
  unfold othE; rw [if_pos hk, if_neg hn]
theorem childE_zero {h n s : Int} (hE : childE h n s = 0) : okB h n = true ∧ (s = 0 ∨ s = 1) ∧ n < p2 h ∧ childV h n s = 2 * n + s := by
  have hv : childV h n s = 2 * n + s := by unfold childV; rw [if_pos hE]
  unfold childE at hE
  cases hx : okB h n <;> simp [hx] at hE
  by_cases hc : s = 0 ∨ s = 1
  · rw [if_pos hc] at hE
    by_cases hl : n < p2 h
    · exact ⟨rfl, hc, hl, hv⟩
    · rw [if_neg hl] at hE; exact absurd hE (by decide)
  · rw [if_neg hc] at hE; exact absurd hE (by decide)
theorem ok_child {h n s : Int} (hk : okB h n = true) (hs : s = 0 ∨ s = 1) (hl : n < p2 h) : okB h (2 * n + s) = true := by
  obtain ⟨k1, k2, k3, k4⟩ := ok_of hk
  exact ok_mk k1 k2 (by omega) (by omega)
/-- the sides from a down to b -/
def pathL (a b : Int) : List Int := (List.range (dep b - dep a).toNat).map fun (k : Nat) => up b (dep a + k + 1) % 2
def pathE (h a b : Int) : Int := if okB h a && okB h b then (if abv a b then 0 else 4) else 1
theorem pathL_length (a b : Int) : (pathL a b).length = (dep b - dep a).toNat := by simp [pathL]
theorem pathL_get (a b : Int) (k : Nat) (h : k < (pathL a b).length) : (pathL a b)[k] = up b (dep a + k + 1) % 2 := by simp [pathL]
theorem up_succ {n e : Int} (hn : 1 ≤ n) (he : 0 ≤ e) (hd : e < dep n) : up n e = up n (e + 1) / 2 := by
  have h1 := up_up hn he (show e ≤ e + 1 by omega) (by omega)
  have h2 := up_dep hn (show 0 ≤ e + 1 by omega) (by omega)
  rw [← h1]
  have := @up_one (up n (e + 1))
  rw [h2, show e + 1 - 1 = e by omega] at this
  exact this
/-- one step down a path -/
theorem path_step {h b e : Int} (hk : okB h b = true) (he : 0 ≤ e) (hd : e < dep b) :
    childE h (up b e) (up b (e + 1) % 2) = 0 ∧ childV h (up b e) (up b (e + 1) % 2) = up b (e + 1) ∧ upE h b (e + 1) = 0 ∧ upV h b (e + 1) = up b (e + 1) ∧
    othE h (up b (e + 1)) = 0 ∧ othV h (up b (e + 1)) = oth (up b (e + 1)) ∧ childE h (up b e) (1 - up b (e + 1) % 2) = 0 ∧ childV h (up b e) (1 - up b (e + 1) % 2) = oth (up b (e + 1)) ∧
    1 ≤ up b e ∧ up b e < 8589934592 ∧ 1 ≤ up b (e + 1) ∧ up b (e + 1) < 8589934592 := by
  obtain ⟨k1, k2, k3, k4⟩ := ok_of hk
  have d3 := (ok_dep hk).2
  have ha := ok_up hk he (by omega)
  have hx := ok_up hk (show 0 ≤ e + 1 by omega) (by omega)
  have hs := up_succ k3 he hd
  have h2 := up_dep k3 (show 0 ≤ e + 1 by omega) (by omega)
  have u1 := (up_bd k3 he (by omega)).2.1
  have u2 := (up_bd k3 (show 0 ≤ e + 1 by omega) (by omega)).1
  have pp := p2_succ e he
  have p1 := p2_pos e
  have pl := p2_mono (show e + 1 ≤ h by omega)
  have m1 := ok_lt ha
  have m2 := ok_lt hx
  have n1 := (ok_of ha).2.2.1
  generalize hxx : up b (e + 1) = x at *
  generalize up b e = y at *
  have c1 : childE h y (x % 2) = 0 := childE_yes ha (by omega) (by omega)
  have c2 : childE h y (1 - x % 2) = 0 := childE_yes ha (by omega) (by omega)
  have o1 : othE h x = 0 := othE_ok hx (by omega)
  have g1 : upE h b (e + 1) = 0 := by unfold upE; rw [if_pos hk, if_pos (by omega)]
  refine ⟨c1, ?_, g1, ?_, o1, ?_, c2, ?_, by omega, m1, by omega, m2⟩
  · unfold childV; rw [if_pos c1]; omega
  · unfold upV; rw [if_pos g1]; exact hxx
  · unfold othV; rw [if_pos o1]
  · unfold childV; rw [if_pos c2]; unfold oth; split <;> omega
theorem pathE_zero {h a b : Int} (hp : pathE h a b = 0) : okB h a = true ∧ okB h b = true ∧ abv a b = true := by
  unfold pathE at hp
  cases h1 : okB h a <;> cases h2 : okB h b <;> cases h3 : abv a b <;> simp [h1, h2, h3] at hp ⊢
theorem pathL_at (a b : Int) (k : Nat) (h : k < (dep b - dep a).toNat) : (pathL a b)[k]? = some (up b (dep a + k + 1) % 2) := by
  rw [List.getElem?_eq_getElem (by rw [pathL_length]; exact h), pathL_get]
end M
end Go.Proofs.YthmiekinjfaflaaGreat
namespace Go.Proofs.YthmiekinjfaflaaGreat
open Go.RowKit
set_option maxRecDepth 100000 in
theorem Tryz.infoInt : (Tryz.prog.info? 3).map (fun i => (i.zero, i.size, i.bytes)) = some (some (.int .i64 0), 1, 8) := by kernel_rfl
/-- the cells of a list of ints -/
abbrev ints (l : List Int) : List Value := l.map (Value.int .i64)
/-- the row behind k rounds -/
abbrev half (l : List Int) (k : Nat) : List Value := ints (l.take k ++ List.replicate (l.length - k) 0)
theorem half_set (l : List Int) (k : Nat) (h : k < l.length) : (half l k).set k (.int .i64 l[k]) = half l (k + 1) := by
  unfold half ints
  rw [← List.map_set]
  congr 1
  rw [List.set_append, if_neg (by simp; omega)]
  simp only [List.length_take]
  rw [Nat.min_eq_left (by omega), Nat.sub_self, show l.length - k = (l.length - (k + 1)) + 1 by omega, List.replicate_succ, List.set_cons_zero,
    List.take_succ_eq_append_getElem h, List.append_assoc]
  rfl
set_option maxRecDepth 100000 in
set_option maxHeartbeats 1000000 in
theorem path_yes (h a b : Int) (w : World) (hka : M.okB h a = true) (hkb : M.okB h b = true) (hab : M.abv a b = true) :
    Calls Tryz.prog 71 #[.int .i64 h, .int .u64 a, .int .u64 b] w fun e w' => e = .returned (.tuple #[.slice (some ⟨w.heap.size, 0, none⟩) (M.pathL a b).length (M.pathL a b).length, .int .i64 0]) ∧ w'.ownsRow w.heap.size 3 1 (.slice (some ⟨w.heap.size, 0, none⟩) (M.pathL a b).length (M.pathL a b).length) (M.pathL a b).length (ints (M.pathL a b)) ∧ Below w.heap.size w w' := by
  have E := M.eBoth_ok hka hkb
  have a1 := (M.ok_of hka).2.2.1
  have b1 := (M.ok_of hkb).2.2.1
  have a2 := M.ok_lt hka
  have b2 := M.ok_lt hkb
  have d1 := M.dep_nonneg a
  have d2 := (M.abv_iff.1 hab).1
  have d3 := (M.ok_dep hkb).2
  have d4 := (M.ok_of hkb).2.1
  clear hka hkb
  obtain ⟨n, hn⟩ : ∃ n : Nat, M.dep b = M.dep a + n := ⟨(M.dep b - M.dep a).toNat, by omega⟩
  obtain ⟨i0, hi, hz0, hz1, hz2⟩ := info_parts Tryz.infoInt
  have Hn : Hid (M.dep b = M.dep a + n) := hn
  clear hn
  go_enter Tryz.func71, Tryz.ntmps71
  go_wp2_with (first | (go_at_call 84; refine (checkBoth_any _ _ _ _ (by omega) (by omega) (by omega) (by omega)).mono ?_; rintro e w' ⟨rfl, hw⟩; subst w') | (go_at_call 85; refine (isAbove_any _ _ _ (by omega) (by omega) (by omega) (by omega)).mono ?_; rintro e w' ⟨rfl, hw⟩; subst w') | (go_at_call 67; refine (depthOf_any _ _ (by omega) (by omega)).mono ?_; rintro e w' ⟨rfl, hw⟩; subst w') | (at_make; refine wpList_make_full _ rfl _ _ 65 rfl w.heap.size 3 i0 (.int .i64 0) 1 Tryz.underlying65 hi hz0 hz1 _ _ _ _ n rfl rfl (by have := Hn.out; omega) (by have := Hn.out; omega) ?b2 ?b3 ?b4 ?_))
  case b2 => rw [hz2]; have := Hn.out; omega
  case b3 => unfold maxLen; have := Hn.out; omega
  case b4 => exact Nat.le_refl _
  intro w1 hown hgrow
  have hb1 : Below w.heap.size w w1 := (Below.refl _ w).grown hgrow (Nat.le_refl _) (fun k hk => by cases hk)
  have hl : (M.pathL a b).length = n := by rw [M.pathL_length]; have := Hn.out; omega
  rw [toList_madeCells_one] at hown
  have hown0 : w1.ownsRow w.heap.size 3 1 (Value.slice (some ⟨w.heap.size, 0, none⟩) n n) n (half (M.pathL a b) 0) := by
    unfold half ints; rw [hl]; simpa using hown
  have Hl : Hid ((M.pathL a b).length = n) := hl
  clear hown hgrow hl
  go_wp2
  go_loopw [32] (fun i wr => ∃ k : Nat, k ≤ n ∧ i = .int .i64 k ∧ wr.ownsRow w.heap.size 3 1 (Value.slice (some ⟨w.heap.size, 0, none⟩) n n) n (half (M.pathL a b) k) ∧ Below w.heap.size w wr) (fun i _ => n - (intOf i).toNat)
  case atStart => exact ⟨0, by omega, rfl, hown0, hb1⟩
  case round =>
    clear hown0 hb1
    obtain ⟨k, hk, rfl, hown, hbel⟩ := hrel
    by_cases hlt : k < n
    · have hkl : k < (M.pathL a b).length := by rw [Hl.out]; exact hlt
      have hcell : ∃ v, wr.cell? ⟨w.heap.size, k, none⟩ = some v := by
        rw [hown.cellAt k (by omega)]
        exact ⟨_, List.getElem?_eq_getElem (by rw [hown.1]; omega)⟩
      obtain ⟨v0, hcell⟩ := hcell
      have hfr := hown.frozenAt k
      have hst := hown.stored k (.int .i64 (M.pathL a b)[k])
      rw [half_set _ _ hkl, M.pathL_get] at hst
      have hnd := Hn.out
      have hu := M.up_bd (n := b) (d := M.dep a + k + 1) b1 (by omega) (by omega)
      have hp := M.p2_pos (M.dep a + k + 1)
      have hle : M.dep a + k + 1 ≤ M.dep b := by omega
      have HST : Hid _ := hst
      obtain ⟨hu1, hu2, hu3⟩ := hu
      clear hst hnd hkl hown
      go_wp2_with (first | (go_at_call 68; refine (upTo_any _ _ _ (by omega) (by omega) (by omega) (by omega)).mono ?_; rintro e w' ⟨rfl, hw⟩; subst w') | (go_at_call 86; refine (sideOf_any _ _ (by omega) (by omega)).mono ?_; rintro e w' ⟨rfl, hw⟩; subst w'))
      go_roundw
      case rel => exact ⟨k + 1, by omega, by go_num, HST.out.1, hbel.grown HST.out.2 hbel.size (fun j hj => by cases hj; exact Nat.le_refl _)⟩
      case measure => simp [intOf]; omega
    · obtain rfl : k = n := by omega
      have hfin : wr.ownsRow w.heap.size 3 1 (Value.slice (some ⟨w.heap.size, 0, none⟩) k k) k (ints (M.pathL a b)) := by
        have := hown
        unfold half at this
        rw [← Hl.out, List.take_length, Nat.sub_self, List.replicate_zero, List.append_nil] at this
        rw [← Hl.out]; exact this
      clear hown
      go_wp2
      go_ret2
      rw [Hl.out]
      exact ⟨rfl, hfin, hbel⟩
set_option maxRecDepth 100000 in
set_option maxHeartbeats 400000 in
theorem path_no (h a b : Int) (w : World) (h0 : 0 ≤ a) (h1 : a ≤ 18446744073709551615) (h2 : 0 ≤ b) (h3 : b ≤ 18446744073709551615) (hp : M.pathE h a b ≠ 0) :
    Calls Tryz.prog 71 #[.int .i64 h, .int .u64 a, .int .u64 b] w fun e w' => e = .returned (.tuple #[.slice none 0 0, .int .i64 (M.pathE h a b)]) ∧ w' = w := by
  by_cases hk : M.okB h a = true ∧ M.okB h b = true
  · have E := M.eBoth_ok hk.1 hk.2
    have k1 := (M.ok_of hk.1).2.2.1
    have k2 := (M.ok_of hk.2).2.2.1
    have hA : M.abv a b = false := by
      cases hx : M.abv a b
      · rfl
      · unfold M.pathE at hp; rw [hk.1, hk.2, hx] at hp; exact absurd rfl hp
    have P : M.pathE h a b = 4 := by unfold M.pathE; rw [hk.1, hk.2, hA]; rfl
    clear hp hk
    go_enter Tryz.func71, Tryz.ntmps71
    go_wp2_with (first | (go_at_call 84; refine (checkBoth_any _ _ _ _ (by omega) (by omega) (by omega) (by omega)).mono ?_; rintro e w' ⟨rfl, hw⟩; subst w') | (go_at_call 85; refine (isAbove_any _ _ _ (by omega) (by omega) (by omega) (by omega)).mono ?_; rintro e w' ⟨rfl, hw⟩; subst w'))
    go_ret2
    rw [P]; exact ⟨rfl, rfl⟩
  · have E := M.eBoth_no hk
    have P : M.pathE h a b = 1 := by unfold M.pathE; rw [if_neg (by simpa using hk)]
    clear hp hk
    go_enter Tryz.func71, Tryz.ntmps71
    go_wp2_with (first | (go_at_call 84; refine (checkBoth_any _ _ _ _ (by omega) (by omega) (by omega) (by omega)).mono ?_; rintro e w' ⟨rfl, hw⟩; subst w') | (go_at_call 85; refine (isAbove_any _ _ _ (by omega) (by omega) (by omega) (by omega)).mono ?_; rintro e w' ⟨rfl, hw⟩; subst w'))
    go_ret2
    rw [P]; exact ⟨rfl, rfl⟩
end Go.Proofs.YthmiekinjfaflaaGreat
