/-
  Plain mathematics of a node's leaves of a set: its two children's, one behind the other. No condition.
-/
import Derived.Test.YthmiekinjfaflaaGreatZH1
import Derived.Test.YthmiekinjfaflaaGreatZLM
import Derived.Test.YthmiekinjfaflaaGreatZM3
namespace Go.Proofs.YthmiekinjfaflaaGreat.M
theorem child_span {h n : Int} (hk : okB h n = true) (hl : n < p2 h) : low h (2 * n) = low h n ∧ high h (2 * n + 1) = high h n ∧ high h (2 * n) + 1 = low h (2 * n + 1) ∧ okB h (2 * n) = true ∧ okB h (2 * n + 1) = true := by
  have h1 := (ok_of hk).2.2.1
  have hd := child_dep (s := 0) h1 (.inl rfl)
  have hd1 := child_dep (s := 1) h1 (.inr rfl)
  have o0 := ok_child hk (s := 0) (.inl rfl) hl
  have o1 := ok_child hk (s := 1) (.inr rfl) hl
  rw [Int.add_zero] at hd o0
  have hdn := (ok_dep o0).2
  rw [hd] at hdn
  have hp : p2 (h - dep n) = 2 * p2 (h - dep n - 1) := by
    have := p2_succ (h - dep n - 1) (by omega)
    rw [show h - dep n - 1 + 1 = h - dep n by omega] at this
    exact this
  have e : h - (dep n + 1) = h - dep n - 1 := by omega
  refine ⟨?_, ?_, ?_, o0, o1⟩
  · rw [low_num, low_num, hd, hp, e, Int.mul_comm 2 n, Int.mul_assoc]
  · rw [high_num, high_num, hd1, hp, e]
    rw [show (2 * n + 1 + 1) * p2 (h - dep n - 1) = (n + 1) * (2 * p2 (h - dep n - 1)) by rw [show 2 * n + 1 + 1 = (n + 1) * 2 by omega, Int.mul_assoc]]
  · rw [high_num, low_num, hd, hd1, e]; omega
theorem belL_split {L : List Int} {lo mid hi : Int} (h : L.Pairwise (· < ·)) (h1 : lo ≤ mid + 1) (h2 : mid ≤ hi) : belL lo hi L = belL lo mid L ++ belL (mid + 1) hi L := by
  refine rising_extL (h.filter _) ?_ fun x => ?_
  · rw [List.pairwise_append]
    refine ⟨h.filter _, h.filter _, fun a ha b hb => ?_⟩
    unfold belL at ha hb
    simp only [List.mem_filter, Bool.and_eq_true, decide_eq_true_eq] at ha hb
    omega
  · unfold belL
    simp only [List.mem_append, List.mem_filter, Bool.and_eq_true, decide_eq_true_eq]
    constructor
    · rintro ⟨a, b, c⟩
      by_cases hx : x ≤ mid
      · exact .inl ⟨a, b, hx⟩
      · exact .inr ⟨a, by omega, c⟩
    · rintro (⟨a, b, c⟩ | ⟨a, b, c⟩)
      · exact ⟨a, b, by omega⟩
      · exact ⟨a, by omega, c⟩
theorem belL_all {L : List Int} {lo hi : Int} (h : ∀ x ∈ L, lo ≤ x ∧ x ≤ hi) : belL lo hi L = L := by
  unfold belL
  exact List.filter_eq_self.2 fun x hx => by simp [h x hx]
theorem belL_one {L : List Int} {lo : Int} (h : L.Pairwise (· < ·)) : (belL lo lo L).length ≤ 1 := by
  have hm : ∀ x ∈ belL lo lo L, x = lo := by
    intro x hx
    unfold belL at hx
    simp only [List.mem_filter, Bool.and_eq_true, decide_eq_true_eq] at hx
    omega
  have hp : (belL lo lo L).Pairwise (· < ·) := h.filter _
  match hb : belL lo lo L with
  | [] => simp
  | [a] => simp
  | a :: b :: t =>
    rw [hb] at hp hm
    have h1 := hm a (by simp)
    have h2 := hm b (by simp)
    have h3 := (List.pairwise_cons.1 hp).1 b (by simp)
    omega
theorem leaf_span {h n : Int} (hk : okB h n = true) (hl : ¬ n < p2 h) : low h n = high h n := by
  obtain ⟨h1, h2, h3, h4⟩ := ok_of hk
  have hE : leafE h (n - p2 h) = 0 := leafE_yes h1 h2 (by omega)
  obtain ⟨_, _, _, h5, h6⟩ := leaf_facts (by omega) hE
  rw [show p2 h + (n - p2 h) = n by omega] at h5 h6
  rw [h5, h6]
theorem belE_iff {h : Int} {L : List Int} {n : Int} : belE h L n = 0 ↔ setB h L = true ∧ okB h n = true := by
  unfold belE
  cases hx : (setB h L && okB h n)
  · simp; intro e; rw [e] at hx; simpa using hx
  · simp at hx; simp [hx]
theorem belE_one {h : Int} {L : List Int} : belE h L 1 = 0 ↔ setB h L = true := by
  rw [belE_iff]
  constructor
  · exact fun e => e.1
  · intro e
    refine ⟨e, ?_⟩
    rw [ok_one]
    obtain ⟨h1, h2, _⟩ := set_of e
    exact ht_mk h1 h2
end Go.Proofs.YthmiekinjfaflaaGreat.M
namespace Go.Proofs.YthmiekinjfaflaaGreat
open Go.RowKit
theorem M.withV_yes {h : Int} {L : List Int} {i : Int} (hE : M.withE h L i = 0) : M.withV h L i = M.withL L i := by unfold M.withV; rw [if_pos hE]
theorem M.withV_no {h : Int} {L : List Int} {i : Int} (hE : M.withE h L i ≠ 0) : M.withV h L i = [] := by unfold M.withV; rw [if_neg hE]
theorem M.outV_yes {h : Int} {L : List Int} {i : Int} (hE : M.outE h L i = 0) : M.outV h L i = M.outLf L i := by unfold M.outV; rw [if_pos hE]
theorem M.outV_no {h : Int} {L : List Int} {i : Int} (hE : M.outE h L i ≠ 0) : M.outV h L i = [] := by unfold M.outV; rw [if_neg hE]
theorem M.belV_yes {h : Int} {L : List Int} {n : Int} (hE : M.belE h L n = 0) : M.belV h L n = M.belL (M.low h n) (M.high h n) L := by unfold M.belV; rw [if_pos hE]
theorem M.belV_no {h : Int} {L : List Int} {n : Int} (hE : M.belE h L n ≠ 0) : M.belV h L n = [] ∧ M.belE h L n = 1 := by
  refine ⟨by unfold M.belV; rw [if_neg hE], ?_⟩
  unfold M.belE at hE ⊢
  cases hx : (M.setB h L && M.okB h n)
  · rfl
  · rw [hx] at hE; simp at hE
theorem M.withV_fits {h : Int} {L : List Int} {i : Int} (h0 : 0 ≤ i) : (∀ x ∈ M.withV h L i, 0 ≤ x ∧ x ≤ 4294967296) ∧ (M.withV h L i).length ≤ 1030 := by
  by_cases hE : M.withE h L i = 0
  · rw [M.withV_yes hE]
    obtain ⟨f0, f1, f2, f3, f4, f5, f6⟩ := M.withE_zero hE
    obtain ⟨s1, s2, s3, s4, s5, s6⟩ := M.set_of f4
    have hp := M.p2_32 s2
    have hb := (M.isB_of f6).2.2
    refine ⟨fun x hx => ?_, by rw [M.withL_length s5 f1]; omega⟩
    rcases M.withL_mem.1 hx with hx | rfl
    · have := s6 x hx; omega
    · omega
  · rw [M.withV_no hE]; simp
theorem M.outV_fits {h : Int} {L : List Int} {i : Int} : (∀ x ∈ M.outV h L i, 0 ≤ x ∧ x ≤ 4294967296) ∧ (M.outV h L i).length ≤ 1030 := by
  by_cases hE : M.outE h L i = 0
  · rw [M.outV_yes hE]
    obtain ⟨f0, f1, f2, f3, f4, f6⟩ := M.outE_zero hE
    obtain ⟨s1, s2, s3, s4, s5, s6⟩ := M.set_of f4
    have hp := M.p2_32 s2
    refine ⟨fun x hx => ?_, ?_⟩
    · have := s6 x (List.mem_filter.1 hx).1; omega
    · have : (M.outLf L i).length ≤ L.length := List.length_filter_le _ _
      omega
  · rw [M.outV_no hE]; simp
theorem M.belV_fits {h : Int} {L : List Int} {n : Int} : (∀ x ∈ M.belV h L n, 0 ≤ x ∧ x ≤ 4294967296) ∧ (M.belV h L n).length ≤ 1030 := by
  by_cases hE : M.belE h L n = 0
  · rw [M.belV_yes hE]
    obtain ⟨s1, s2, s3, s4, s5, s6⟩ := M.set_of (M.belE_iff.1 hE).1
    have hp := M.p2_32 s2
    refine ⟨fun x hx => ?_, ?_⟩
    · have := s6 x (List.mem_filter.1 hx).1; omega
    · have : (M.belL (M.low h n) (M.high h n) L).length ≤ L.length := List.length_filter_le _ _
      omega
  · rw [(M.belV_no hE).1]; simp
theorem fits_big {X : List Int} (h : ∀ x ∈ X, 0 ≤ x ∧ x ≤ 4294967296) : ∀ x ∈ X, 0 ≤ x ∧ x ≤ 18446744073709551615 := fun x hx => by have := h x hx; omega
theorem set_fits {X : List Int} {B : Int} {k : Nat} {y : Int} (h : ∀ x ∈ X, 0 ≤ x ∧ x ≤ B) (h0 : 0 ≤ y) (h1 : y ≤ B + 1) : ∀ x ∈ X.set k y, 0 ≤ x ∧ x ≤ B + 1 := by
  intro x hx
  rcases List.mem_or_eq_of_mem_set hx with hx | rfl
  · have := h x hx; omega
  · exact ⟨h0, h1⟩
theorem own_some {w : World} {base : Nat} {e : TypeId} {ao : Option Addr} {n c : Nat} {xs : List Value} (h : w.ownsRow base e 1 (.slice ao n c) n xs) (h0 : 0 < n) : ∃ g, ao = some ⟨g, 0, none⟩ := by
  rcases h.2 with ⟨_, h2⟩ | ⟨g, cap, cur, h1, _⟩
  · omega
  · simp only [Value.slice.injEq] at h1; exact ⟨g, h1.1⟩
theorem own_cell {w : World} {base : Nat} {e : TypeId} {g n c : Nat} {Y : List Int} (h : w.ownsRow base e 1 (.slice (some ⟨g, 0, none⟩) n c) n (u64s Y)) (k : Nat) (hk : k < n) : w.cell? ⟨g, k, none⟩ = some (.int .u64 (Y[k]?.getD 0)) := by
  have hl : Y.length = n := by have := h.1; simpa using this
  rw [h.cellAt k (by omega)]
  unfold u64s
  rw [List.getElem?_map, List.getElem?_eq_getElem (by omega)]
  simp
theorem u64s_set (X : List Int) (k : Nat) (y : Int) : (u64s X).set k (.int .u64 y) = u64s (X.set k y) := by unfold u64s; rw [List.map_set]
end Go.Proofs.YthmiekinjfaflaaGreat
namespace Go.Proofs.YthmiekinjfaflaaGreat.M
/-- a node is above one of the set's leaves -/
def inT (h : Int) (L : List Int) (n : Int) : Bool := okB h n && L.any fun i => decide (low h n ≤ i) && decide (i ≤ high h n)
theorem inT_iff {h : Int} {L : List Int} {n : Int} : inT h L n = true ↔ okB h n = true ∧ ∃ i ∈ L, low h n ≤ i ∧ i ≤ high h n := by
  unfold inT; simp [List.any_eq_true]
theorem belL_mem {lo hi : Int} {L : List Int} {x : Int} : x ∈ belL lo hi L ↔ x ∈ L ∧ lo ≤ x ∧ x ≤ hi := by
  unfold belL; simp [List.mem_filter]
theorem inT_bel {h : Int} {L : List Int} {n : Int} (hk : okB h n = true) : inT h L n = decide (0 < (belL (low h n) (high h n) L).length) := by
  rw [Bool.eq_iff_iff, inT_iff, decide_eq_true_eq]
  constructor
  · rintro ⟨_, i, h1, h2⟩
    exact List.length_pos_of_mem (belL_mem.2 ⟨h1, h2⟩)
  · intro hp
    obtain ⟨i, hi⟩ := List.exists_mem_of_length_pos hp
    exact ⟨hk, i, (belL_mem.1 hi).1, (belL_mem.1 hi).2⟩
/-- put at the end, but if it is the last one -/
def psh (out : List Int) (n : Int) : List Int := if out.getLast? = some n then out else out ++ [n]
theorem last_rise {A : List Int} (hA : A.Pairwise (· < ·)) {x a : Int} (hx : x ∈ A) (hl : A.getLast? = some a) : x ≤ a := by
  obtain ⟨B, rfl⟩ := List.getLast?_eq_some_iff.1 hl
  rw [List.pairwise_append] at hA
  rcases List.mem_append.1 hx with h | h
  · have := hA.2.2 x h a (by simp); omega
  · simp at h; omega
theorem psh_fold : ∀ (X acc : List Int), acc.Pairwise (· < ·) → X.Pairwise (· ≤ ·) → (∀ a ∈ acc, ∀ x ∈ X, a ≤ x) →
    (X.foldl psh acc).Pairwise (· < ·) ∧ (∀ y, y ∈ X.foldl psh acc ↔ y ∈ acc ∨ y ∈ X) ∧ (X.foldl psh acc).length ≤ acc.length + X.length
  | [], acc, h1, _, _ => ⟨h1, by simp, by simp⟩
  | x :: t, acc, h1, h2, h3 => by
    obtain ⟨t1, t2⟩ := List.pairwise_cons.1 h2
    rw [List.foldl_cons]
    by_cases hl : acc.getLast? = some x
    · have e : psh acc x = acc := by unfold psh; rw [if_pos hl]
      rw [e]
      obtain ⟨k1, k2, k3⟩ := psh_fold t acc h1 t2 fun a ha y hy => h3 a ha y (List.mem_cons_of_mem _ hy)
      have hx : x ∈ acc := List.mem_of_getLast? hl
      refine ⟨k1, fun y => ?_, by simp only [List.length_cons]; omega⟩
      rw [k2]; simp only [List.mem_cons]
      constructor
      · rintro (h | h)
        · exact .inl h
        · exact .inr (.inr h)
      · rintro (h | rfl | h)
        · exact .inl h
        · exact .inl hx
        · exact .inr h
    · have e : psh acc x = acc ++ [x] := by unfold psh; rw [if_neg hl]
      rw [e]
      have hlt : ∀ a ∈ acc, a < x := fun a ha => by
        have h4 := h3 a ha x (by simp)
        by_cases h5 : a < x
        · exact h5
        · obtain rfl : a = x := by omega
          cases hg : acc.getLast? with
          | none => rw [List.getLast?_eq_none_iff] at hg; subst hg; cases ha
          | some y =>
            have h6 := last_rise h1 ha hg
            have h7 := h3 y (List.mem_of_getLast? hg) a (by simp)
            obtain rfl : y = a := by omega
            exact absurd hg hl
      obtain ⟨k1, k2, k3⟩ := psh_fold t (acc ++ [x]) (List.pairwise_append.2 ⟨h1, by simp, fun a ha b hb => by simp at hb; subst hb; exact hlt a ha⟩) t2 fun a ha y hy => by
        rcases List.mem_append.1 ha with ha | ha
        · exact h3 a ha y (List.mem_cons_of_mem _ hy)
        · simp at ha; subst ha; exact t1 y hy
      refine ⟨k1, fun y => ?_, by simp only [List.length_cons, List.length_append, List.length_nil] at k3 ⊢; omega⟩
      rw [k2]; simp only [List.mem_cons, List.mem_append, List.not_mem_nil, or_false, or_assoc]
theorem psh_apart : ∀ (X T acc : List Int), (∀ x ∈ X, x ∉ T) → X.foldl psh (T ++ acc) = T ++ X.foldl psh acc
  | [], _, _, _ => rfl
  | x :: t, T, acc, h => by
    have e : psh (T ++ acc) x = T ++ psh acc x := by
      unfold psh
      cases acc with
      | nil =>
        rw [List.append_nil, if_neg (fun e => h x (by simp) (List.mem_of_getLast? e)), if_neg (by simp), List.nil_append]
      | cons a b =>
        have : (T ++ a :: b).getLast? = (a :: b).getLast? := by rw [List.getLast?_append]; simp [List.getLast?_cons]
        rw [this]
        split
        · rfl
        · rw [List.append_assoc]
    rw [List.foldl_cons, List.foldl_cons, e]
    exact psh_apart t T _ fun y hy => h y (List.mem_cons_of_mem _ hy)
/-- the node above leaf i, of depth d -/
def anc (h d i : Int) : Int := up (p2 h + i) d
theorem anc_facts {h d i : Int} (h1 : 1 ≤ h) (h2 : h ≤ 32) (d0 : 0 ≤ d) (dh : d ≤ h) (i0 : 0 ≤ i) (ih : i < p2 h) :
    okB h (anc h d i) = true ∧ dep (anc h d i) = d ∧ low h (anc h d i) ≤ i ∧ i ≤ high h (anc h d i) := by
  obtain ⟨_, k1, k2, k3, k4⟩ := leaf_facts i0 (leafE_yes h1 h2 ih)
  have hn := (ok_of k1).2.2.1
  unfold anc
  have ho := ok_up k1 d0 (by omega)
  have hw := (within_iff ho k1).2 (abv_up hn d0 (by omega))
  rw [k3, k4] at hw
  exact ⟨ho, up_dep hn d0 (by omega), hw⟩
theorem anc_iff {h d i x : Int} (h1 : 1 ≤ h) (h2 : h ≤ 32) (d0 : 0 ≤ d) (dh : d ≤ h) (i0 : 0 ≤ i) (ih : i < p2 h) :
    anc h d i = x ↔ okB h x = true ∧ dep x = d ∧ low h x ≤ i ∧ i ≤ high h x := by
  constructor
  · rintro rfl; exact anc_facts h1 h2 d0 dh i0 ih
  · rintro ⟨k1, rfl, k2⟩
    obtain ⟨_, l1, l2, l3, l4⟩ := leaf_facts i0 (leafE_yes h1 h2 ih)
    have := (within_iff k1 l1).1 (by rw [l3, l4]; exact k2)
    exact (abv_iff.1 this).2
theorem anc_mono {h d i j : Int} (h1 : 1 ≤ h) (h2 : h ≤ 32) (i0 : 0 ≤ i) (hij : i ≤ j) (jh : j < p2 h) : anc h d i ≤ anc h d j := by
  obtain ⟨_, _, k2, _⟩ := leaf_facts i0 (leafE_yes h1 h2 (show i < p2 h by omega))
  obtain ⟨_, _, l2, _⟩ := leaf_facts (show 0 ≤ j by omega) (leafE_yes h1 h2 jh)
  unfold anc up
  rw [k2, l2]
  exact Int.ediv_le_ediv (by have := p2_pos (h - d); omega) (by omega)
def lev (h : Int) (L : List Int) (d : Int) : List Int := (L.map (anc h d)).foldl psh []
def tre (h : Int) (L : List Int) : Nat → List Int
  | 0 => []
  | k + 1 => tre h L k ++ lev h L k
/-- the tree of a set, rising -/
def tree (h : Int) (L : List Int) : List Int := tre h L (h.toNat + 1)
theorem map_anc_rise {h d : Int} {L : List Int} (hs : setB h L = true) : (L.map (anc h d)).Pairwise (· ≤ ·) := by
  obtain ⟨s1, s2, s3, s4, s5, s6⟩ := set_of hs
  rw [List.pairwise_map]
  refine s5.imp_of_mem fun {a b} ha hb hab => anc_mono s1 s2 (s6 a ha).1 (by omega) (s6 b hb).2
theorem lev_facts {h d : Int} {L : List Int} (hs : setB h L = true) (d0 : 0 ≤ d) (dh : d ≤ h) :
    (lev h L d).Pairwise (· < ·) ∧ (∀ x, x ∈ lev h L d ↔ inT h L x = true ∧ dep x = d) ∧ (lev h L d).length ≤ L.length := by
  obtain ⟨s1, s2, s3, s4, s5, s6⟩ := set_of hs
  obtain ⟨k1, k2, k3⟩ := psh_fold (L.map (anc h d)) [] List.Pairwise.nil (map_anc_rise hs) (by simp)
  unfold lev
  refine ⟨k1, fun x => ?_, by simpa using k3⟩
  rw [k2, inT_iff]
  simp only [List.not_mem_nil, false_or, List.mem_map]
  constructor
  · rintro ⟨i, hi, rfl⟩
    obtain ⟨a1, a2, a3⟩ := anc_facts s1 s2 d0 dh (s6 i hi).1 (s6 i hi).2
    exact ⟨⟨a1, i, hi, a3⟩, a2⟩
  · rintro ⟨⟨a1, i, hi, a3⟩, a2⟩
    exact ⟨i, hi, (anc_iff s1 s2 d0 dh (s6 i hi).1 (s6 i hi).2).2 ⟨a1, a2, a3⟩⟩
theorem tre_facts {h : Int} {L : List Int} (hs : setB h L = true) : ∀ k : Nat, (k : Int) ≤ h + 1 →
    (tre h L k).Pairwise (· < ·) ∧ (∀ x, x ∈ tre h L k ↔ inT h L x = true ∧ dep x < k) ∧ (tre h L k).length ≤ k * L.length
  | 0, _ => ⟨List.Pairwise.nil, fun x => by have := dep_nonneg x; simp [tre]; intro _; omega, by simp [tre]⟩
  | k + 1, hk => by
    obtain ⟨t1, t2, t3⟩ := tre_facts hs k (by omega)
    obtain ⟨l1, l2, l3⟩ := lev_facts (d := (k : Int)) hs (by omega) (by omega)
    unfold tre
    refine ⟨List.pairwise_append.2 ⟨t1, l1, fun a ha b hb => ?_⟩, fun x => ?_, by rw [List.length_append, Nat.succ_mul]; omega⟩
    · obtain ⟨a1, a2⟩ := (t2 a).1 ha
      obtain ⟨b1, b2⟩ := (l2 b).1 hb
      have a3 := (ok_of (inT_iff.1 a1).1).2.2.1
      have b3 := (ok_of (inT_iff.1 b1).1).2.2.1
      have h3 := dep_lt a a3
      have h4 := dep_le b b3
      have h5 := p2_mono (show dep a + 1 ≤ dep b by omega)
      rw [p2_succ _ (dep_nonneg a)] at h5
      omega
    · rw [List.mem_append, t2, l2]
      constructor
      · rintro (⟨h1, h2⟩ | ⟨h1, h2⟩) <;> exact ⟨h1, by omega⟩
      · rintro ⟨h1, h2⟩
        by_cases e : dep x < k
        · exact .inl ⟨h1, e⟩
        · exact .inr ⟨h1, by omega⟩
/-- what the tree is after d levels, and k leaves more -/
theorem tre_next {h : Int} {L : List Int} (hs : setB h L = true) (d : Nat) (hd : (d : Int) ≤ h) : (L.map (anc h d)).foldl psh (tre h L d) = tre h L (d + 1) := by
  obtain ⟨t1, t2, t3⟩ := tre_facts hs d (by omega)
  obtain ⟨s1, s2, s3, s4, s5, s6⟩ := set_of hs
  have := psh_apart (L.map (anc h d)) (tre h L d) [] fun x hx => by
    obtain ⟨i, hi, rfl⟩ := List.mem_map.1 hx
    intro hm
    have h1 := ((t2 _).1 hm).2
    rw [(anc_facts s1 s2 (show (0:Int) ≤ d by omega) hd (s6 i hi).1 (s6 i hi).2).2.1] at h1
    omega
  rw [List.append_nil] at this
  exact this
theorem tree_facts {h : Int} {L : List Int} (hs : setB h L = true) :
    (tree h L).Pairwise (· < ·) ∧ (∀ x, x ∈ tree h L ↔ inT h L x = true) ∧ (tree h L).length ≤ 33 * L.length := by
  obtain ⟨s1, s2, s3, s4, s5, s6⟩ := set_of hs
  obtain ⟨t1, t2, t3⟩ := tre_facts hs (h.toNat + 1) (by omega)
  refine ⟨t1, fun x => ?_, Nat.le_trans t3 (Nat.mul_le_mul_right _ (by omega))⟩
  unfold tree
  rw [t2]
  constructor
  · exact fun h => h.1
  · intro hx
    exact ⟨hx, by have := (ok_dep (inT_iff.1 hx).1).2; omega⟩
/-- a rising list of members of another one is no longer -/
theorem rise_len {A B : List Int} (hA : A.Pairwise (· < ·)) (hB : B.Pairwise (· < ·)) (h : ∀ x ∈ A, x ∈ B) : A.length ≤ B.length := by
  have e : A = B.filter (fun x => decide (x ∈ A)) := rising_extL hA (hB.filter _) fun x => by
    simp only [List.mem_filter, decide_eq_true_eq]
    exact ⟨fun hx => ⟨h x hx, hx⟩, fun hx => hx.2⟩
  rw [e]; exact List.length_filter_le _ _
/-! ### from Root on -/
def kid (h : Int) (L : List Int) (n : Int) : List Int := if n < p2 h then [2 * n, 2 * n + 1].filter (inT h L) else []
def outk (h : Int) (L : List Int) (n : Int) : List Int := if n < p2 h then [2 * n, 2 * n + 1].filter (fun c => !inT h L c) else []
theorem kid_mem {h : Int} {L : List Int} {n c : Int} : c ∈ kid h L n ↔ n < p2 h ∧ (c = 2 * n ∨ c = 2 * n + 1) ∧ inT h L c = true := by
  unfold kid
  by_cases hl : n < p2 h
  · rw [if_pos hl]; simp [List.mem_filter, hl]
  · rw [if_neg hl]; simp [hl]
theorem outk_mem {h : Int} {L : List Int} {n c : Int} : c ∈ outk h L n ↔ n < p2 h ∧ (c = 2 * n ∨ c = 2 * n + 1) ∧ inT h L c = false := by
  unfold outk
  by_cases hl : n < p2 h
  · rw [if_pos hl]; simp [List.mem_filter, hl]
  · rw [if_neg hl]; simp [hl]
theorem kid_rise1 (h : Int) (L : List Int) (n : Int) : (kid h L n).Pairwise (· < ·) := by
  unfold kid
  split
  · exact List.Pairwise.filter _ (by simp; omega)
  · exact List.Pairwise.nil
theorem outk_rise1 (h : Int) (L : List Int) (n : Int) : (outk h L n).Pairwise (· < ·) := by
  unfold outk
  split
  · exact List.Pairwise.filter _ (by simp; omega)
  · exact List.Pairwise.nil
theorem flat_rise {f : Int → List Int} (h1 : ∀ n, (f n).Pairwise (· < ·)) (h2 : ∀ n, ∀ c ∈ f n, 2 * n ≤ c ∧ c ≤ 2 * n + 1) : ∀ {T : List Int}, T.Pairwise (· < ·) → (T.flatMap f).Pairwise (· < ·)
  | [], _ => List.Pairwise.nil
  | n :: t, h => by
    obtain ⟨t1, t2⟩ := List.pairwise_cons.1 h
    rw [List.flatMap_cons]
    refine List.pairwise_append.2 ⟨h1 n, flat_rise h1 h2 t2, fun a ha b hb => ?_⟩
    obtain ⟨m, hm, hb⟩ := List.mem_flatMap.1 hb
    have := h2 n a ha
    have := h2 m b hb
    have := t1 m hm
    omega
theorem kid_two (h : Int) (L : List Int) (n : Int) : ∀ c ∈ kid h L n, 2 * n ≤ c ∧ c ≤ 2 * n + 1 := fun c hc => by
  have := (kid_mem.1 hc).2.1; omega
theorem outk_two (h : Int) (L : List Int) (n : Int) : ∀ c ∈ outk h L n, 2 * n ≤ c ∧ c ≤ 2 * n + 1 := fun c hc => by
  have := (outk_mem.1 hc).2.1; omega
/-- T is told, Q is still to be told -/
structure Bfs (h : Int) (L T Q : List Int) : Prop where
  eq : T ++ Q = 1 :: T.flatMap (kid h L)
  rise : (T ++ Q).Pairwise (· < ·)
  mem : ∀ x ∈ T ++ Q, inT h L x = true
theorem inT_root {h : Int} {L : List Int} (hs : setB h L = true) (h0 : L ≠ []) : inT h L 1 = true := by
  obtain ⟨s1, s2, s3, s4, s5, s6⟩ := set_of hs
  obtain ⟨i, hi⟩ := List.exists_mem_of_ne_nil L h0
  rw [inT_iff, ok_one, low_one, high_one]
  have := s6 i hi
  exact ⟨ht_mk s1 s2, i, hi, by omega, by omega⟩
theorem Bfs.start {h : Int} {L : List Int} (hs : setB h L = true) (h0 : L ≠ []) : Bfs h L [] [1] :=
  ⟨rfl, by simp, fun x hx => by simp at hx; subst hx; exact inT_root hs h0⟩
theorem Bfs.step {h : Int} {L T Q : List Int} {q : Int} (b : Bfs h L T (q :: Q)) : Bfs h L (T ++ [q]) (Q ++ kid h L q) := by
  have e : T ++ [q] ++ (Q ++ kid h L q) = 1 :: (T ++ [q]).flatMap (kid h L) := by
    rw [List.flatMap_append, List.flatMap_cons, List.flatMap_nil, List.append_nil, ← List.cons_append, ← b.eq]
    simp
  refine ⟨e, ?_, fun x hx => ?_⟩
  · rw [e]
    have hr : (T ++ [q]).Pairwise (· < ·) := by
      refine b.rise.sublist ?_
      rw [show T ++ q :: Q = T ++ [q] ++ Q by simp]
      exact List.sublist_append_left _ _
    refine List.pairwise_cons.2 ⟨fun c hc => ?_, flat_rise (kid_rise1 h L) (kid_two h L) hr⟩
    obtain ⟨m, hm, hc⟩ := List.mem_flatMap.1 hc
    have h1 := kid_two h L m c hc
    have h2 := (ok_of (inT_iff.1 (b.mem m (by rw [show T ++ q :: Q = T ++ [q] ++ Q by simp]; exact List.mem_append_left _ hm))).1).2.2.1
    omega
  · rw [show T ++ [q] ++ (Q ++ kid h L q) = (T ++ q :: Q) ++ kid h L q by simp] at hx
    rcases List.mem_append.1 hx with hx | hx
    · exact b.mem x hx
    · exact (kid_mem.1 hx).2.2
theorem inT_up {h : Int} {L : List Int} {n : Int} (hn : inT h L n = true) (h2 : 2 ≤ n) : inT h L (n / 2) = true ∧ n ∈ kid h L (n / 2) := by
  obtain ⟨k1, i, hi, k2⟩ := inT_iff.1 hn
  have kk := ok_of k1
  have hl : n / 2 < p2 h := by omega
  have hk2 : okB h (n / 2) = true := ok_mk kk.1 kk.2.1 (by omega) (by omega)
  obtain ⟨c1, c2, c3, c4, c5⟩ := child_span hk2 hl
  have b1 := low_bd c4
  have b2 := low_bd c5
  have e : n = 2 * (n / 2) ∨ n = 2 * (n / 2) + 1 := by omega
  refine ⟨inT_iff.2 ⟨hk2, i, hi, ?_⟩, kid_mem.2 ⟨hl, e, hn⟩⟩
  rcases e with e | e <;> (rw [e] at k2; omega)
theorem Bfs.done {h : Int} {L T : List Int} (hs : setB h L = true) (b : Bfs h L T []) : T = tree h L := by
  obtain ⟨t1, t2, _⟩ := tree_facts hs
  have hr := b.rise
  have he := b.eq
  have hm := b.mem
  rw [List.append_nil] at hr he hm
  refine rising_extL hr t1 fun x => ?_
  rw [t2]
  refine ⟨hm x, ?_⟩
  have key : ∀ (k : Nat) (x : Int), x.toNat ≤ k → inT h L x = true → x ∈ T := by
    intro k
    induction k with
    | zero => intro x hk hx; have := (ok_of (inT_iff.1 hx).1).2.2.1; omega
    | succ k ih =>
      intro x hk hx
      have h1 := (ok_of (inT_iff.1 hx).1).2.2.1
      rw [he]
      by_cases e : x = 1
      · subst e; simp
      · obtain ⟨k1, k2⟩ := inT_up hx (by omega)
        exact List.mem_cons_of_mem _ (List.mem_flatMap.2 ⟨x / 2, ih (x / 2) (by omega) k1, k2⟩)
  exact key x.toNat x (Nat.le_refl _)
theorem Bfs.len {h : Int} {L T Q : List Int} (hs : setB h L = true) (b : Bfs h L T Q) : T.length + Q.length ≤ 33792 := by
  obtain ⟨t1, t2, t3⟩ := tree_facts hs
  have := rise_len b.rise t1 fun x hx => (t2 x).2 (b.mem x hx)
  rw [List.length_append] at this
  have := (set_of hs).2.2.1
  omega
theorem tree_eq {h : Int} {L : List Int} (hs : setB h L = true) (h0 : L ≠ []) : tree h L = 1 :: (tree h L).flatMap (kid h L) := by
  obtain ⟨t1, t2, _⟩ := tree_facts hs
  refine rising_extL t1 (List.pairwise_cons.2 ⟨fun c hc => ?_, flat_rise (kid_rise1 h L) (kid_two h L) t1⟩) fun x => ?_
  · obtain ⟨m, hm, hc⟩ := List.mem_flatMap.1 hc
    have h1 := kid_two h L m c hc
    have h2 := (ok_of (inT_iff.1 ((t2 m).1 hm)).1).2.2.1
    omega
  · rw [t2, List.mem_cons, List.mem_flatMap]
    constructor
    · intro hx
      by_cases e : x = 1
      · exact .inl e
      · obtain ⟨k1, k2⟩ := inT_up hx (by have := (ok_of (inT_iff.1 hx).1).2.2.1; omega)
        exact .inr ⟨x / 2, (t2 _).2 k1, k2⟩
    · rintro (rfl | ⟨m, _, hc⟩)
      · exact inT_root hs h0
      · exact (kid_mem.1 hc).2.2
end Go.Proofs.YthmiekinjfaflaaGreat.M
