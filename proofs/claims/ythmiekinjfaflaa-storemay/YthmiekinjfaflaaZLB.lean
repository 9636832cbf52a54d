/-
  Plain mathematics of a node's leaves of a set: its two children's, one behind the other. No condition.
-/
import Derived.Test.YthmiekinjfaflaaZBel
import Derived.Test.YthmiekinjfaflaaZH1
import Derived.Test.YthmiekinjfaflaaZLM
namespace Go.Proofs.Ythmiekinjfaflaa.M
theorem child_span {h n : Int} (hk : okB h n = true) (hl : n < p2 h) : low h (2 * n) = low h n ∧ high h (2 * n + 1) = high h n ∧ high h (2 * n) + 1 = low h (2 * n + 1) ∧ okB h (2 * n) = true ∧ okB h (2 * n + 1) = true := by
  have h1 := (ok_of hk).2.2.1
  have hd := child_dep (s := 0) h1 (.inl rfl)
  have hd1 := child_dep (s := 1) h1 (.inr rfl)
  have o0 := ok_child hk (s := 0) (.inl rfl) hl
  have o1 := ok_child hk (s := 1) (.inr rfl) hl
  rw [Int.add_zero] at hd o0
  have hdn := (ok_dep o0).2
  rw [hd] at hdn
  have hp : p2 (h - dep n) = 2 * p2 (h - dep n - 1) := by
    have := p2_succ (h - dep n - 1) (by omega)
    rw [show h - dep n - 1 + 1 = h - dep n by omega] at this
    exact this
  have e : h - (dep n + 1) = h - dep n - 1 := by omega
  refine ⟨?_, ?_, ?_, o0, o1⟩
  · rw [low_num, low_num, hd, hp, e, Int.mul_comm 2 n, Int.mul_assoc]
  · rw [high_num, high_num, hd1, hp, e]
    rw [show (2 * n + 1 + 1) * p2 (h - dep n - 1) = (n + 1) * (2 * p2 (h - dep n - 1)) by rw [show 2 * n + 1 + 1 = (n + 1) * 2 by omega, Int.mul_assoc]]
  · rw [high_num, low_num, hd, hd1, e]; omega
theorem belL_split {L : List Int} {lo mid hi : Int} (h : L.Pairwise (· < ·)) (h1 : lo ≤ mid + 1) (h2 : mid ≤ hi) : belL lo hi L = belL lo mid L ++ belL (mid + 1) hi L := by
  refine rising_extL (h.filter _) ?_ fun x => ?_
  · rw [List.pairwise_append]
    refine ⟨h.filter _, h.filter _, fun a ha b hb => ?_⟩
    unfold belL at ha hb
    simp only [List.mem_filter, Bool.and_eq_true, decide_eq_true_eq] at ha hb
    omega
  · unfold belL
    simp only [List.mem_append, List.mem_filter, Bool.and_eq_true, decide_eq_true_eq]
    constructor
    · rintro ⟨a, b, c⟩
      by_cases hx : x ≤ mid
      · exact .inl ⟨a, b, hx⟩
      · exact .inr ⟨a, by omega, c⟩
    · rintro (⟨a, b, c⟩ | ⟨a, b, c⟩)
      · exact ⟨a, b, by omega⟩
      · exact ⟨a, by omega, c⟩
theorem belL_all {L : List Int} {lo hi : Int} (h : ∀ x ∈ L, lo ≤ x ∧ x ≤ hi) : belL lo hi L = L := by
  unfold belL
  exact List.filter_eq_self.2 fun x hx => by simp [h x hx]
theorem belL_one {L : List Int} {lo : Int} (h : L.Pairwise (· < ·)) : (belL lo lo L).length ≤ 1 := by
  have hm : ∀ x ∈ belL lo lo L, x = lo := by
    intro x hx
    unfold belL at hx
    simp only [List.mem_filter, Bool.and_eq_true, decide_eq_true_eq] at hx
    omega
  have hp : (belL lo lo L).Pairwise (· < ·) := h.filter _
  match hb : belL lo lo L with
  | [] => simp
  | [a] => simp
  | a :: b :: t =>
    rw [hb] at hp hm
    have h1 := hm a (by simp)
    have h2 := hm b (by simp)
    have h3 := (List.pairwise_cons.1 hp).1 b (by simp)
    omega
theorem leaf_span {h n : Int} (hk : okB h n = true) (hl : ¬ n < p2 h) : low h n = high h n := by
  obtain ⟨h1, h2, h3, h4⟩ := ok_of hk
  have hE : leafE h (n - p2 h) = 0 := leafE_yes h1 h2 (by omega)
  obtain ⟨_, _, _, h5, h6⟩ := leaf_facts (by omega) hE
  rw [show p2 h + (n - p2 h) = n by omega] at h5 h6
  rw [h5, h6]
theorem belE_iff {h : Int} {L : List Int} {n : Int} : belE h L n = 0 ↔ setB h L = true ∧ okB h n = true := by
  unfold belE
  cases hx : (setB h L && okB h n)
  · simp; intro e; rw [e] at hx; simpa using hx
  · simp at hx; simp [hx]
theorem belE_one {h : Int} {L : List Int} : belE h L 1 = 0 ↔ setB h L = true := by
  rw [belE_iff]
  constructor
  · exact fun e => e.1
  · intro e
    refine ⟨e, ?_⟩
    rw [ok_one]
    obtain ⟨h1, h2, _⟩ := set_of e
    exact ht_mk h1 h2
end Go.Proofs.Ythmiekinjfaflaa.M
namespace Go.Proofs.Ythmiekinjfaflaa
open Go.RowKit
theorem M.withV_yes {h : Int} {L : List Int} {i : Int} (hE : M.withE h L i = 0) : M.withV h L i = M.withL L i := by unfold M.withV; rw [if_pos hE]
theorem M.withV_no {h : Int} {L : List Int} {i : Int} (hE : M.withE h L i ≠ 0) : M.withV h L i = [] := by unfold M.withV; rw [if_neg hE]
theorem M.outV_yes {h : Int} {L : List Int} {i : Int} (hE : M.outE h L i = 0) : M.outV h L i = M.outLf L i := by unfold M.outV; rw [if_pos hE]
theorem M.outV_no {h : Int} {L : List Int} {i : Int} (hE : M.outE h L i ≠ 0) : M.outV h L i = [] := by unfold M.outV; rw [if_neg hE]
theorem M.belV_yes {h : Int} {L : List Int} {n : Int} (hE : M.belE h L n = 0) : M.belV h L n = M.belL (M.low h n) (M.high h n) L := by unfold M.belV; rw [if_pos hE]
theorem M.belV_no {h : Int} {L : List Int} {n : Int} (hE : M.belE h L n ≠ 0) : M.belV h L n = [] ∧ M.belE h L n = 1 := by
  refine ⟨by unfold M.belV; rw [if_neg hE], ?_⟩
  unfold M.belE at hE ⊢
  cases hx : (M.setB h L && M.okB h n)
  · rfl
  · rw [hx] at hE; simp at hE
theorem M.withV_fits {h : Int} {L : List Int} {i : Int} (h0 : 0 ≤ i) : (∀ x ∈ M.withV h L i, 0 ≤ x ∧ x ≤ 4294967296) ∧ (M.withV h L i).length ≤ 1030 := by
  by_cases hE : M.withE h L i = 0
  · rw [M.withV_yes hE]
    obtain ⟨f0, f1, f2, f3, f4, f5, f6⟩ := M.withE_zero hE
    obtain ⟨s1, s2, s3, s4, s5, s6⟩ := M.set_of f4
    have hp := M.p2_32 s2
    have hb := (M.isB_of f6).2.2
    refine ⟨fun x hx => ?_, by rw [M.withL_length s5 f1]; omega⟩
    rcases M.withL_mem.1 hx with hx | rfl
    · have := s6 x hx; omega
    · omega
  · rw [M.withV_no hE]; simp
theorem M.outV_fits {h : Int} {L : List Int} {i : Int} : (∀ x ∈ M.outV h L i, 0 ≤ x ∧ x ≤ 4294967296) ∧ (M.outV h L i).length ≤ 1030 := by
  by_cases hE : M.outE h L i = 0
  · rw [M.outV_yes hE]
    obtain ⟨f0, f1, f2, f3, f4, f6⟩ := M.outE_zero hE
    obtain ⟨s1, s2, s3, s4, s5, s6⟩ := M.set_of f4
    have hp := M.p2_32 s2
    refine ⟨fun x hx => ?_, ?_⟩
    · have := s6 x (List.mem_filter.1 hx).1; omega
    · have : (M.outLf L i).length ≤ L.length := List.length_filter_le _ _
      omega
  · rw [M.outV_no hE]; simp
theorem M.belV_fits {h : Int} {L : List Int} {n : Int} : (∀ x ∈ M.belV h L n, 0 ≤ x ∧ x ≤ 4294967296) ∧ (M.belV h L n).length ≤ 1030 := by
  by_cases hE : M.belE h L n = 0
  · rw [M.belV_yes hE]
    obtain ⟨s1, s2, s3, s4, s5, s6⟩ := M.set_of (M.belE_iff.1 hE).1
    have hp := M.p2_32 s2
    refine ⟨fun x hx => ?_, ?_⟩
    · have := s6 x (List.mem_filter.1 hx).1; omega
    · have : (M.belL (M.low h n) (M.high h n) L).length ≤ L.length := List.length_filter_le _ _
      omega
  · rw [(M.belV_no hE).1]; simp
theorem fits_big {X : List Int} (h : ∀ x ∈ X, 0 ≤ x ∧ x ≤ 4294967296) : ∀ x ∈ X, 0 ≤ x ∧ x ≤ 18446744073709551615 := fun x hx => by have := h x hx; omega
theorem set_fits {X : List Int} {B : Int} {k : Nat} {y : Int} (h : ∀ x ∈ X, 0 ≤ x ∧ x ≤ B) (h0 : 0 ≤ y) (h1 : y ≤ B + 1) : ∀ x ∈ X.set k y, 0 ≤ x ∧ x ≤ B + 1 := by
  intro x hx
  rcases List.mem_or_eq_of_mem_set hx with hx | rfl
  · have := h x hx; omega
  · exact ⟨h0, h1⟩
theorem own_some {w : World} {base : Nat} {e : TypeId} {ao : Option Addr} {n c : Nat} {xs : List Value} (h : w.ownsRow base e 1 (.slice ao n c) n xs) (h0 : 0 < n) : ∃ g, ao = some ⟨g, 0, none⟩ := by
  rcases h.2 with ⟨_, h2⟩ | ⟨g, cap, cur, h1, _⟩
  · omega
  · simp only [Value.slice.injEq] at h1; exact ⟨g, h1.1⟩
theorem own_cell {w : World} {base : Nat} {e : TypeId} {g n c : Nat} {Y : List Int} (h : w.ownsRow base e 1 (.slice (some ⟨g, 0, none⟩) n c) n (u64s Y)) (k : Nat) (hk : k < n) : w.cell? ⟨g, k, none⟩ = some (.int .u64 (Y[k]?.getD 0)) := by
  have hl : Y.length = n := by have := h.1; simpa using this
  rw [h.cellAt k (by omega)]
  unfold u64s
  rw [List.getElem?_map, List.getElem?_eq_getElem (by omega)]
  simp
theorem u64s_set (X : List Int) (k : Nat) (y : Int) : (u64s X).set k (.int .u64 y) = u64s (X.set k y) := by unfold u64s; rw [List.map_set]
end Go.Proofs.Ythmiekinjfaflaa
