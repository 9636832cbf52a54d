/-
  Plain mathematics of a node's leaves of a set: its two children's, one behind the other. No condition.
-/
import Derived.Test.YthmiekinjfaflaaZLM
import Derived.Test.YthmiekinjfaflaaZM3
namespace Go.Proofs.Ythmiekinjfaflaa.M
theorem child_span {h n : Int} (hk : okB h n = true) (hl : n < p2 h) : low h (2 * n) = low h n ∧ high h (2 * n + 1) = high h n ∧ high h (2 * n) + 1 = low h (2 * n + 1) ∧ okB h (2 * n) = true ∧ okB h (2 * n + 1) = true := by
  have h1 := (ok_of hk).2.2.1
  have hd := child_dep (s := 0) h1 (.inl rfl)
  have hd1 := child_dep (s := 1) h1 (.inr rfl)
  have o0 := ok_child hk (s := 0) (.inl rfl) hl
  have o1 := ok_child hk (s := 1) (.inr rfl) hl
  rw [Int.add_zero] at hd o0
  have hdn := (ok_dep o0).2
  rw [hd] at hdn
  have hp : p2 (h - dep n) = 2 * p2 (h - dep n - 1) := by
    have := p2_succ (h - dep n - 1) (by omega)
    rw [show h - dep n - 1 + 1 = h - dep n by omega] at this
    exact this
  have e : h - (dep n + 1) = h - dep n - 1 := by omega
  refine ⟨?_, ?_, ?_, o0, o1⟩
  · rw [low_num, low_num, hd, hp, e, Int.mul_comm 2 n, Int.mul_assoc]
  · rw [high_num, high_num, hd1, hp, e]
    rw [show (2 * n + 1 + 1) * p2 (h - dep n - 1) = (n + 1) * (2 * p2 (h - dep n - 1)) by rw [show 2 * n + 1 + 1 = (n + 1) * 2 by omega, Int.mul_assoc]]
  · rw [high_num, low_num, hd, hd1, e]; omega
theorem belL_split {L : List Int} {lo mid hi : Int} (h : L.Pairwise (· < ·)) (h1 : lo ≤ mid + 1) (h2 : mid ≤ hi) : belL lo hi L = belL lo mid L ++ belL (mid + 1) hi L := by
  refine rising_extL (h.filter _) ?_ fun x => ?_
  · rw [List.pairwise_append]
    refine ⟨h.filter _, h.filter _, fun a ha b hb => ?_⟩
    unfold belL at ha hb
    simp only [List.mem_filter, Bool.and_eq_true, decide_eq_true_eq] at ha hb
    omega
  · unfold belL
    simp only [List.mem_append, List.mem_filter, Bool.and_eq_true, decide_eq_true_eq]
    constructor
    · rintro ⟨a, b, c⟩
      by_cases hx : x ≤ mid
      · exact .inl ⟨a, b, hx⟩
      · exact .inr ⟨a, by omega, c⟩
    · rintro (⟨a, b, c⟩ | ⟨a, b, c⟩)
      · exact ⟨a, b, by omega⟩
      · exact ⟨a, by omega, c⟩
theorem belL_all {L : List Int} {lo hi : Int} (h : ∀ x ∈ L, lo ≤ x ∧ x ≤ hi) : belL lo hi L = L := by
  unfold belL
  exact List.filter_eq_self.2 fun x hx => by simp [h x hx]
theorem belL_one {L : List Int} {lo : Int} (h : L.Pairwise (· < ·)) : (belL lo lo L).length ≤ 1 := by
  have hm : ∀ x ∈ belL lo lo L, x = lo := by
    intro x hx
    unfold belL at hx
    simp only [List.mem_filter, Bool.and_eq_true, decide_eq_true_eq] at hx
    omega
  have hp : (belL lo lo L).Pairwise (· < ·) := h.filter _
  match hb : belL lo lo L with
  | [] => simp
  | [a] => simp
  | a :: b :: t =>
    rw [hb] at hp hm
    have h1 := hm a (by simp)
    have h2 := hm b (by simp)
    have h3 := (List.pairwise_cons.1 hp).1 b (by simp)
    omega
theorem leaf_span {h n : Int} (hk : okB h n = true) (hl : ¬ n < p2 h) : low h n = high h n := by
  obtain ⟨h1, h2, h3, h4⟩ := ok_of hk
  have hE : leafE h (n - p2 h) = 0 := leafE_yes h1 h2 (by omega)
  obtain ⟨_, _, _, h5, h6⟩ := leaf_facts (by omega) hE
  rw [show p2 h + (n - p2 h) = n by omega] at h5 h6
  rw [h5, h6]
theorem belE_iff {h : Int} {L : List Int} {n : Int} : belE h L n = 0 ↔ setB h L = true ∧ okB h n = true := by
  unfold belE
  cases hx : (setB h L && okB h n)
  · simp; intro e; rw [e] at hx; simpa using hx
  · simp at hx; simp [hx]
theorem belE_one {h : Int} {L : List Int} : belE h L 1 = 0 ↔ setB h L = true := by
  rw [belE_iff]
  constructor
  · exact fun e => e.1
  · intro e
    refine ⟨e, ?_⟩
    rw [ok_one]
    obtain ⟨h1, h2, _⟩ := set_of e
    exact ht_mk h1 h2
end Go.Proofs.Ythmiekinjfaflaa.M
