/-
  Plain mathematics of a leaf's pairs: which they are, how many, that the leaf is in each, that no two are the same. No condition.
-/
import Derived.Test.YthmiekinjfaflaaGreatZI1
import Derived.Test.YthmiekinjfaflaaGreatZR1
import Derived.Test.YthmiekinjfaflaaGreatZTR
namespace Go.Proofs.YthmiekinjfaflaaGreat
namespace M
variable {h k i : Int}
/-- the pairs of a top of depth d: it, but the other one beside each deeper node of the way -/
def prT (y : Int) (m : Nat) (d : Nat) : List (Int × Int) := (List.range (m - d)).map fun q => (up y (d : Nat), oth (up y ((d + 1 + q : Nat) : Int)))
def prD (y : Int) (m : Nat) : List (Int × Int) := (List.range (m + 1)).flatMap (prT y m)
def prS (h k y : Int) : List (Int × Int) := if k = 1 then (chainL y).map (fun n => (n, 0)) else (1, 0) :: (prD y h.toNat).filter fun s => decide (k = 2) || useB h s.1 s.2
def prsE (h k i : Int) : Int := if kB k && decide (leafE h i = 0) then 0 else 1
def prsL (h k i : Int) : List (Int × Int) := if kB k && decide (leafE h i = 0) then prS h k (p2 h + i) else []
def pmE (h k : Int) : Int := if kB k && htB h then 0 else 1
def pmV (h k : Int) : Int := if kB k && htB h then (if k = 1 then h + 1 else if k = 2 then h * (h + 1) / 2 + 1 else prV h + 1) else 0
/-- a leaf's node -/
structure Lf (h y : Int) (m : Nat) : Prop where
  hm : h = m
  ok : okB h y = true
  dy : dep y = h
theorem lf_of (hl : leafE h i = 0) (h0 : 0 ≤ i) : Lf h (p2 h + i) h.toNat := by
  obtain ⟨-, h2, h3, -⟩ := leaf_facts h0 hl
  have := (ok_of h2).1
  exact ⟨by omega, h2, h3⟩
theorem prT_mem {y : Int} {m d : Nat} {s : Int × Int} : s ∈ prT y m d ↔ ∃ e : Nat, d < e ∧ e ≤ m ∧ s = (up y (d : Nat), oth (up y (e : Nat))) := by
  unfold prT
  rw [List.mem_map]
  constructor
  · rintro ⟨q, hq, rfl⟩
    rw [List.mem_range] at hq
    exact ⟨d + 1 + q, by omega, by omega, rfl⟩
  · rintro ⟨e, h1, h2, rfl⟩
    refine ⟨e - (d + 1), List.mem_range.2 (by omega), ?_⟩
    rw [show d + 1 + (e - (d + 1)) = e by omega]
theorem prD_mem {y : Int} {m : Nat} {s : Int × Int} : s ∈ prD y m ↔ ∃ d e : Nat, d < e ∧ e ≤ m ∧ s = (up y (d : Nat), oth (up y (e : Nat))) := by
  unfold prD
  rw [List.mem_flatMap]
  constructor
  · rintro ⟨d, -, hs⟩
    obtain ⟨e, h1, h2, h3⟩ := prT_mem.1 hs
    exact ⟨d, e, h1, h2, h3⟩
  · rintro ⟨d, e, h1, h2, h3⟩
    exact ⟨d, List.mem_range.2 (by omega), prT_mem.2 ⟨e, h1, h2, h3⟩⟩
/-- a node of the way, and the other one beside one that is deeper -/
theorem way_facts {y : Int} {m : Nat} (L : Lf h y m) {d e : Nat} (hd : d < e) (he : e ≤ m) : subB h (up y (d : Nat)) (oth (up y (e : Nat))) = true ∧ abv (up y (d : Nat)) y = true ∧ abv (oth (up y (e : Nat))) y = false ∧ dep (up y (d : Nat)) = d ∧ dep (oth (up y (e : Nat))) = e ∧ oth (up y (e : Nat)) ≠ 0 ∧ oth (oth (up y (e : Nat))) = up y (e : Nat) := by
  have hm := L.hm
  have hy := (ok_of L.ok).2.2.1
  have d1 : ((d : Nat) : Int) ≤ dep y := by rw [L.dy]; omega
  have e1 : ((e : Nat) : Int) ≤ dep y := by rw [L.dy]; omega
  have a1 := abv_up hy (show 0 ≤ ((d : Nat) : Int) by omega) d1
  have a2 := up_dep hy (show 0 ≤ ((d : Nat) : Int) by omega) d1
  have a3 := up_dep hy (show 0 ≤ ((e : Nat) : Int) by omega) e1
  have ge2 : 2 ≤ up y (e : Nat) := by
    have b := (up_bd hy (show 0 ≤ ((e : Nat) : Int) by omega) e1).1
    have : p2 1 ≤ p2 (e : Nat) := p2_mono (by omega)
    have : p2 1 = 2 := by decide +kernel
    omega
  obtain ⟨o1, o2, o3, o4, o5, -⟩ := oth_facts ge2
  have ok1 := ok_up L.ok (show 0 ≤ ((d : Nat) : Int) by omega) d1
  have ok2 := ok_oth (ok_up L.ok (show 0 ≤ ((e : Nat) : Int) by omega) e1) (by omega)
  have hab : abv (up y (d : Nat)) (oth (up y (e : Nat))) = true := by
    rw [abv_iff, a2, o5, a3]
    refine ⟨by omega, ?_⟩
    have u1 : up (oth (up y (e : Nat))) ((e : Nat) - 1) = up y ((e : Nat) - 1) := by
      have x1 := @up_one (oth (up y (e : Nat)))
      rw [o5, a3, o4] at x1
      have x2 := @up_one (up y (e : Nat))
      rw [a3, up_up hy (by omega) (by omega) e1] at x2
      rw [x1, x2]
    have v1 := up_up (n := oth (up y (e : Nat))) (d := (e : Nat) - 1) (e := (d : Nat)) (by omega) (by omega) (by omega) (by rw [o5, a3]; omega)
    have v2 := up_up (n := y) (d := (e : Nat) - 1) (e := (d : Nat)) hy (by omega) (by omega) (by omega)
    rw [← v1, u1, v2]
  refine ⟨sub_mk ok1 ok2 hab (fun hh => ?_), a1, ?_, a2, by rw [o5, a3], by omega, o3⟩
  · have := congrArg dep hh
    rw [a2, o5, a3] at this
    omega
  · rw [Bool.eq_false_iff]
    intro hh
    have := (abv_iff.1 hh).2
    rw [o5, a3] at this
    exact o2 this.symm
theorem prD_sub {y : Int} {m : Nat} (L : Lf h y m) : ∀ s ∈ prD y m, subB h s.1 s.2 = true ∧ s.2 ≠ 0 ∧ abv s.1 y = true ∧ abv s.2 y = false := by
  intro s hs
  obtain ⟨d, e, h1, h2, rfl⟩ := prD_mem.1 hs
  obtain ⟨a, b, c, -, -, f, -⟩ := way_facts L h1 h2
  exact ⟨a, f, b, c⟩
theorem prT_nodup {y : Int} {m : Nat} (L : Lf h y m) (d : Nat) (hd : d ≤ m) : (prT y m d).Nodup := by
  unfold prT
  rw [List.Nodup, List.pairwise_map]
  refine List.Pairwise.imp_of_mem ?_ (List.nodup_range)
  intro a b ha hb hne he
  rw [List.mem_range] at ha hb
  obtain ⟨-, -, -, -, x, -⟩ := way_facts L (show d < d + 1 + a by omega) (by omega)
  obtain ⟨-, -, -, -, z, -⟩ := way_facts L (show d < d + 1 + b by omega) (by omega)
  have := congrArg dep (Prod.mk.inj he).2
  rw [x, z] at this
  omega
theorem prD_nodup {y : Int} {m : Nat} (L : Lf h y m) : (prD y m).Nodup := by
  unfold prD
  rw [List.Nodup, List.pairwise_flatMap]
  refine ⟨fun d hd => prT_nodup L d (by have := List.mem_range.1 hd; omega), ?_⟩
  refine List.Pairwise.imp_of_mem ?_ (List.nodup_range)
  intro a b ha hb hne s hs t ht hst
  subst hst
  obtain ⟨e, a1, a2, rfl⟩ := prT_mem.1 hs
  obtain ⟨f, b1, b2, he⟩ := prT_mem.1 ht
  obtain ⟨-, -, -, x, -⟩ := way_facts L a1 a2
  obtain ⟨-, -, -, z, -⟩ := way_facts L b1 b2
  have := congrArg dep (Prod.mk.inj he).1
  rw [x, z] at this
  omega
theorem prD_length (y : Int) : ∀ m : Nat, ∀ n : Nat, n ≤ m + 1 → (((List.range n).flatMap (prT y m)).length : Int) * 2 = (n : Int) * (2 * m + 1 - n)
  | m, 0, _ => by simp
  | m, n + 1, h => by
    have ih := prD_length y m n (by omega)
    rw [List.range_succ, List.flatMap_append, List.length_append]
    simp only [List.flatMap_cons, List.flatMap_nil, List.append_nil]
    have e : (prT y m n).length = m - n := by unfold prT; simp
    rw [e]
    push_cast
    have e2 : ((m - n : Nat) : Int) = (m : Int) - n := by omega
    rw [Int.add_mul, ih, e2]
    have : (n : Int) * (2 * m + 1 - n) = (n : Int) * (2 * m - n) + n := by
      rw [show (2 * (m : Int) + 1 - n) = (2 * m - n) + 1 by omega, Int.mul_add, Int.mul_one]
    rw [this, show (2 * (m : Int) + 1 - (n + 1)) = 2 * m - n by omega, Int.add_mul, Int.one_mul]
    omega
end M
end Go.Proofs.YthmiekinjfaflaaGreat
namespace Go.Proofs.YthmiekinjfaflaaGreat
namespace M
variable {h k i y : Int} {m : Nat}
theorem useB_dep {I J I' J' : Int} (hJ : J ≠ 0) (hJ' : J' ≠ 0) (dI : dep I = dep I') (dJ : dep J = dep J') : useB h I J = useB h I' J' := by
  unfold useB cutB
  rw [if_neg hJ, if_neg hJ', dI, dJ]
theorem lf_zero (L : Lf h y m) : Lf h (p2 h) m := by
  have hm := L.hm
  obtain ⟨a, b, -, -⟩ := ok_of L.ok
  have pp := p2_pos h
  have : leafE h 0 = 0 := by
    unfold leafE htB
    rw [if_pos (by simp; omega), if_pos (by omega)]
  have l := lf_of this (Int.le_refl 0)
  rw [Int.add_zero] at l
  rwa [show h.toNat = m by omega] at l
/-- useful as beside leaf 0 -/
theorem use_way (L : Lf h y m) {d e : Nat} (hd : d < e) (he : e ≤ m) : useV h (p2 d) (p2 (e : Nat) + 1) = useB h (up y (d : Nat)) (oth (up y (e : Nat))) := by
  obtain ⟨-, -, -, x1, x2, x3, -⟩ := way_facts L hd he
  obtain ⟨z0, -, -, z1, z2, z3, -⟩ := way_facts (lf_zero L) hd he
  have hm := L.hm
  have ev : oth (p2 (e : Nat)) = p2 (e : Nat) + 1 := by
    unfold oth
    have : p2 (e : Nat) = 2 * p2 ((e : Nat) - 1) := by
      have := p2_succ ((e : Nat) - 1) (by omega)
      rwa [show ((e : Nat) : Int) - 1 + 1 = e by omega] at this
    rw [if_pos (by omega)]
  rw [up_p2 (by omega), up_p2 (by omega)] at z0
  rw [up_p2 (by omega)] at z1 z2 z3
  rw [ev] at z0 z2 z3
  unfold useV
  rw [z0, Bool.true_and]
  exact useB_dep z3 x3 (by rw [z1, x1]) (by rw [z2, x2])
theorem prT_use (L : Lf h y m) (d : Nat) : ∀ n : Nat, d + n ≤ m → (((List.range n).map fun q => (up y (d : Nat), oth (up y ((d + 1 + q : Nat) : Int)))).filter fun s => useB h s.1 s.2).length = c1 h d n
  | 0, _ => by simp [c1]
  | n + 1, hn => by
    have ih := prT_use L d n (by omega)
    rw [List.range_succ, List.map_append, List.filter_append, List.length_append, ih]
    rw [show c1 h d (n + 1) = c1 h d n + (if useV h (p2 d) (p2 ((d + 1 + n : Nat) : Int) + 1) = true then 1 else 0) from rfl, use_way L (show d < d + 1 + n by omega) (by omega), List.map_singleton, List.filter_cons]
    dsimp only
    split <;> rfl
theorem prD_use (L : Lf h y m) : ∀ n : Nat, n ≤ m + 1 → (((List.range n).flatMap (prT y m)).filter fun s => useB h s.1 s.2).length = cA h m n
  | 0, _ => by simp [cA]
  | n + 1, hn => by
    have ih := prD_use L n (by omega)
    rw [List.range_succ, List.flatMap_append, List.filter_append, List.length_append, ih]
    simp only [List.flatMap_cons, List.flatMap_nil, List.append_nil]
    rw [show cA h m (n + 1) = cA h m n + c1 h n (m - n) from rfl]
    unfold prT
    rw [prT_use L n (m - n) (by omega)]
theorem prS_length (L : Lf h y m) (hk : kB k = true) : ((prS h k y).length : Int) = pmV h k := by
  have hm := L.hm
  obtain ⟨a, b, -, -⟩ := ok_of L.ok
  have ht : htB h = true := by unfold htB; simp; omega
  have tn : h.toNat = m := by omega
  unfold prS pmV
  rw [hk, ht]
  simp only [Bool.and_self, if_true]
  rcases kB_of hk with rfl | rfl | rfl
  · rw [if_pos rfl, if_pos rfl, List.length_map, chainL_length, L.dy]
    omega
  · rw [if_neg (by decide), if_neg (by decide), if_pos rfl, List.length_cons]
    rw [List.filter_eq_self.2 (fun _ _ => by simp), tn]
    have := prD_length y m (m + 1) (Nat.le_refl _)
    unfold prD
    rw [show 2 * (m : Int) + 1 - ((m + 1 : Nat) : Int) = m by omega] at this
    rw [hm, Int.mul_comm (m : Int)]
    push_cast at this ⊢
    generalize (((m : Int) + 1) * m) = p at *
    omega
  · rw [if_neg (by decide), if_neg (by decide), if_neg (by decide), List.length_cons, tn]
    have := prD_use L (m + 1) (Nat.le_refl _)
    have e : (fun s : Int × Int => decide ((3 : Int) = 2) || useB h s.1 s.2) = fun s => useB h s.1 s.2 := by funext s; simp
    unfold prD prV
    rw [e, this, ht, tn]
    simp
theorem chain_mem (L : Lf h y m) {n : Int} : n ∈ chainL y ↔ ∃ d : Nat, d ≤ m ∧ n = up y (d : Nat) := by
  have hm := L.hm
  unfold chainL
  rw [List.mem_map, L.dy]
  constructor
  · rintro ⟨d, hd, rfl⟩
    exact ⟨d, by have := List.mem_range.1 hd; omega, rfl⟩
  · rintro ⟨d, hd, rfl⟩
    exact ⟨d, List.mem_range.2 (by omega), rfl⟩
theorem chain_abv (L : Lf h y m) {n : Int} (hn : okB h n = true) : n ∈ chainL y ↔ abv n y = true := by
  have hm := L.hm
  rw [chain_mem L, abv_iff]
  have hy := (ok_of L.ok).2.2.1
  constructor
  · rintro ⟨d, hd, rfl⟩
    rw [up_dep hy (by omega) (by rw [L.dy]; omega)]
    exact ⟨by rw [L.dy]; omega, rfl⟩
  · rintro ⟨h1, h2⟩
    have := dep_nonneg n
    rw [L.dy] at h1
    exact ⟨(dep n).toNat, by omega, by rw [show ((dep n).toNat : Int) = dep n by omega]; exact h2.symm⟩
theorem htB_lf (L : Lf h y m) : htB h = true := by
  obtain ⟨a, b, -, -⟩ := ok_of L.ok
  unfold htB
  simp
  omega
theorem abv_one (L : Lf h y m) : abv 1 y = true := by
  have := abv_up (ok_of L.ok).2.2.1 (Int.le_refl 0) (dep_nonneg y)
  rwa [up_zero (ok_of L.ok).2.2.1] at this
/-- each may be of the scheme, and the leaf is in it -/
theorem prS_in (L : Lf h y m) (hk : kB k = true) : ∀ s ∈ prS h k y, subB h s.1 s.2 = true ∧ myV h k s.1 s.2 = true ∧ abv s.1 y = true ∧ (s.2 = 0 ∨ abv s.2 y = false) := by
  intro s hs
  have hm := L.hm
  have hy := (ok_of L.ok).2.2.1
  unfold prS at hs
  rcases kB_of hk with rfl | hk2
  · rw [if_pos rfl, List.mem_map] at hs
    obtain ⟨n, hn, rfl⟩ := hs
    obtain ⟨d, hd, rfl⟩ := (chain_mem L).1 hn
    have d1 : ((d : Nat) : Int) ≤ dep y := by rw [L.dy]; omega
    have o := ok_up L.ok (show 0 ≤ ((d : Nat) : Int) by omega) d1
    have s0 := sub_mk0 o
    refine ⟨s0, ?_, abv_up hy (by omega) d1, .inl rfl⟩
    unfold myV
    rw [hk, s0]
    rfl
  · rw [if_neg (by omega), List.mem_cons] at hs
    rcases hs with rfl | hs
    · have s0 := sub_mk0 ((ok_one h).trans (htB_lf L))
      refine ⟨s0, ?_, abv_one L, .inl rfl⟩
      unfold myV
      rw [hk, s0, if_neg (by omega)]
      rcases hk2 with rfl | rfl
      · simp
      · simp [use_zero]
    · rw [List.mem_filter, show h.toNat = m by omega] at hs
      obtain ⟨a, b, c, d⟩ := prD_sub L s hs.1
      refine ⟨a, ?_, c, .inr d⟩
      unfold myV
      rw [hk, a, if_neg (by omega)]
      rcases hk2 with rfl | rfl
      · simp [b]
      · have := hs.2
        simp at this
        simp [this]
theorem prS_nodup (L : Lf h y m) : (prS h k y).Nodup := by
  have hm := L.hm
  have hy := (ok_of L.ok).2.2.1
  unfold prS
  split
  · unfold chainL
    rw [List.map_map, List.Nodup, List.pairwise_map]
    refine List.Pairwise.imp_of_mem ?_ (List.nodup_range)
    intro a b ha hb hne he
    rw [List.mem_range, L.dy] at ha hb
    have := congrArg dep (Prod.mk.inj he).1
    simp only at this
    rw [up_dep hy (by omega) (by rw [L.dy]; omega), up_dep hy (by omega) (by rw [L.dy]; omega)] at this
    omega
  · rw [show h.toNat = m by omega, List.nodup_cons]
    refine ⟨fun hh => ?_, (prD_nodup L).filter _⟩
    exact (prD_sub L _ (List.mem_filter.1 hh).1).2.1 rfl
/-- those without a J that may be of it: just those in which the leaf is -/
theorem prS_zero (L : Lf h y m) (hk : kB k = true) {I : Int} (hmy : myV h k I 0 = true) : ((I, 0) ∈ prS h k y ↔ abv I y = true) := by
  have hm := L.hm
  unfold myV at hmy
  rw [hk] at hmy
  simp only [Bool.true_and, Bool.and_eq_true] at hmy
  obtain ⟨hs, hq⟩ := hmy
  have hI : okB h I = true := by unfold subB at hs; simp at hs; exact hs
  unfold prS
  rcases kB_of hk with rfl | hk2
  · rw [if_pos rfl, List.mem_map, ← chain_abv L hI]
    constructor
    · rintro ⟨n, hn, he⟩
      rw [← (Prod.mk.inj he).1]
      exact hn
    · intro hn
      exact ⟨I, hn, rfl⟩
  · have hI1 : I = 1 := by
      rcases hk2 with rfl | rfl
      · simpa using hq
      · simpa [use_zero] using hq
    subst hI1
    rw [if_neg (by omega)]
    exact ⟨fun _ => abv_one L, fun _ => List.mem_cons_self ..⟩
end M
end Go.Proofs.YthmiekinjfaflaaGreat
namespace Go.Proofs.YthmiekinjfaflaaGreat
open Go.RowKit
set_option maxRecDepth 100000 in
theorem own_cellu {W : World} {base g n cap : Nat} {L : List Int} (h : W.ownsRow base 23 1 (.slice (some ⟨g, 0, none⟩) n cap) n (u64s L)) {k : Nat} {x : Int} (hk : L[k]? = some x) : W.cell? ⟨g, k, none⟩ = some (.int .u64 x) := by
  have hl := (List.getElem?_eq_some_iff.1 hk).1
  have h1 := h.1
  have h2 : (u64s L).length = L.length := by simp [u64s]
  rw [h.cellAt k (by omega)]
  simp [u64s, hk]
theorem own_cap {W : World} {base g n cap : Nat} {e : TypeId} {xs : List Value} (h : W.ownsRow base e 1 (.slice (some ⟨g, 0, none⟩) n cap) n xs) : n ≤ cap ∧ cap ≤ 9223372036854775807 := by
  rcases h.2 with ⟨h1, h2⟩ | ⟨g', cap', cur, h1, h2, h3, h4, h5, h6, h7⟩
  · cases h1
  · cases h1; unfold maxLen at h5; omega
end Go.Proofs.YthmiekinjfaflaaGreat
