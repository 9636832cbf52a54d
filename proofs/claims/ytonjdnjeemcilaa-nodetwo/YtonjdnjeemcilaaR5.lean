/-
  What the document's own answer Path comes to where there is a path. Conditions: there are such nodes, and one is above the other.
-/
import Derived.Test.YtonjdnjeemcilaaR4
namespace Go.Proofs.Ytonjdnjeemcilaa
open Go.RowKit
theorem own_apart {w : World} {b1 b2 : Nat} {e1 e2 : TypeId} {g n1 c1 n2 : Nat} {v : Value} {xs ys : List Value} (h1 : w.ownsRow b1 e1 1 (.slice (some ⟨g, 0, none⟩) n1 c1) n1 xs) (h2 : w.ownsRow b2 e2 1 v n2 ys) (hne : e1 ≠ e2) : v.ownBlock ≠ some g := by
  intro hv
  rcases h2.2 with ⟨h2, _⟩ | ⟨g2, cap2, cur2, h2, _, h3, _⟩
  · rw [h2] at hv; simp [Value.ownBlock] at hv
  · rw [h2] at hv
    simp [Value.ownBlock] at hv
    subst hv
    rcases h1.2 with ⟨h4, _⟩ | ⟨g4, cap4, cur4, h4, _, h5, _⟩
    · simp at h4
    · simp only [Value.slice.injEq, Option.some.injEq, Addr.mk.injEq, and_true] at h4
      obtain ⟨rfl, _⟩ := h4
      rw [h3] at h5
      simp at h5
      exact hne h5.2.symm
/-- on the way down to b: up to a's depth no node is greater than a; behind it each one is, and a is above it -/
theorem M.path_test {a b : Int} (ha : 1 ≤ a) (hb : 1 ≤ b) (hab : M.abv a b = true) (k : Nat) (hk : (k : Int) ≤ M.dep b) :
    ((k : Int) ≤ M.dep a → ¬ a < M.up b k) ∧ (M.dep a < k → a < M.up b k ∧ M.abv a (M.up b k) = true) := by
  obtain ⟨h1, h2⟩ := M.abv_iff.1 hab
  have d0 := M.dep_nonneg a
  constructor
  · intro hka
    have := M.up_up hb (show 0 ≤ (k : Int) by omega) hka h1
    rw [h2] at this
    have := (M.up_bd ha (show 0 ≤ (k : Int) by omega) hka).2.2
    omega
  · intro hka
    have h3 := (M.up_bd hb (show 0 ≤ (k : Int) by omega) hk).1
    have h4 := M.dep_lt a ha
    have h5 := M.p2_mono (show M.dep a + 1 ≤ k by omega)
    rw [M.p2_succ _ d0] at h5
    refine ⟨by omega, ?_⟩
    rw [M.abv_iff, M.up_dep hb (by omega) hk, M.up_up hb d0 (by omega) hk]
    exact ⟨by omega, h2⟩
theorem M.pathL_take {a b : Int} (k : Nat) (d : Nat) (hd : M.dep a = d) (hk : d < k) (hkb : (k : Int) ≤ M.dep b) :
    (M.pathL a b).take (k + 1 - (d + 1)) = (M.pathL a b).take (k - (d + 1)) ++ [M.up b k % 2] := by
  have hl : k - (d + 1) < (M.pathL a b).length := by rw [M.pathL_length]; omega
  rw [show k + 1 - (d + 1) = (k - (d + 1)) + 1 by omega, List.take_succ_eq_append_getElem hl, M.pathL_get]
  congr 4
  omega
set_option maxRecDepth 100000 in
set_option maxHeartbeats 1000000 in
theorem rpath_yes (h a b : Int) (w : World) (hka : M.okB h a = true) (hkb : M.okB h b = true) (hab : M.abv a b = true) :
    Calls Try.prog 30 #[.int .i64 h, .int .u64 a, .int .u64 b] w fun e w' => ∃ v, e = .returned (.tuple #[v, .int .i64 0]) ∧ w'.ownsRow w.heap.size 3 1 v (M.pathL a b).length (ints (M.pathL a b)) ∧ Below w.heap.size w w' := by
  have a1 := (M.ok_of hka).2.2.1
  have b1 := (M.ok_of hkb).2.2.1
  have a2 := M.ok_lt hka
  have b2 := M.ok_lt hkb
  have k3 := (M.ok_dep hkb).2
  have k4 := (M.ok_of hkb).2.1
  obtain ⟨m, hm⟩ : ∃ m : Nat, M.dep b = m := ⟨(M.dep b).toNat, by have := M.dep_nonneg b; omega⟩
  obtain ⟨d, hd⟩ : ∃ d : Nat, M.dep a = d := ⟨(M.dep a).toNat, by have := M.dep_nonneg a; omega⟩
  have hdm : d ≤ m := by have := (M.abv_iff.1 hab).1; omega
  have HL : Hid (∀ k : Nat, k ≤ m → (M.chainL b)[k]? = some (M.up b k)) := fun k hk => M.chainL_at b k (by omega)
  have HT : Hid (∀ k : Nat, k ≤ m → ((k : Int) ≤ M.dep a → ¬ a < M.up b k) ∧ (M.dep a < k → a < M.up b k ∧ M.abv a (M.up b k) = true)) := fun k hk => M.path_test a1 b1 hab k (by omega)
  have HP : Hid (∀ k : Nat, d < k → k ≤ m → (M.pathL a b).take (k + 1 - (d + 1)) = (M.pathL a b).take (k - (d + 1)) ++ [M.up b k % 2]) := fun k h1 h2 => M.pathL_take k d hd h1 (by omega)
  have HU : Hid (∀ k : Nat, k ≤ m → 1 ≤ M.up b k ∧ M.up b k ≤ b) := fun k hk => ⟨M.up_pos b1 (by omega) (by omega), (M.up_bd b1 (show 0 ≤ (k : Int) by omega) (by omega)).2.2⟩
  have HLen : Hid ((M.pathL a b).length = m - d) := by show _ = _; rw [M.pathL_length]; omega
  have HM : Hid (M.dep b = m) := hm
  have HD : Hid (M.dep a = d) := hd
  obtain ⟨i0, hi, hz0, hz1, hz2⟩ := info_parts Try.infoInt
  have hm32 : m ≤ 32 := by omega
  clear hm hd
  go_enter Try.func30, Try.ntmps30
  go_wp2_with (first | (go_at_call 36; refine (may_any _ _ _ (by omega) (by omega)).mono ?_; rintro e w' ⟨rfl, hw⟩; subst w') | (go_at_call 42; refine (is_any _ _ _ (by omega) (by omega)).mono ?_; rintro e w1 ⟨rfl, hb1⟩) | (go_at_call 37; refine (chain_any m _ _ (by omega) (by omega) HM.out).mono ?_; rintro e w2 ⟨g, cap, rfl, hown, hbel⟩))
  have hown0 : w2.ownsRow w.heap.size 22 1 (.slice (some ⟨g, 0, none⟩) (m + 1) cap) (m + 1) (u64s (M.chainL b)) := own_lower hown hb1.size
  have hbel0 : Below w.heap.size w w2 := below_trans hb1 hbel
  clear hown hbel hb1
  go_loopw [28, 8] (fun i t wr => ∃ k : Nat, k ≤ m + 1 ∧ i = .int .i64 k ∧ wr.ownsRow w.heap.size 22 1 (.slice (some ⟨g, 0, none⟩) (m + 1) cap) (m + 1) (u64s (M.chainL b)) ∧ wr.ownsRow w.heap.size 3 1 t (k - (d + 1)) (ints ((M.pathL a b).take (k - (d + 1)))) ∧ Below w.heap.size w wr) (fun i _ _ => m + 1 - (intOf i).toNat)
  case atStart => exact ⟨0, by omega, rfl, hown0, by rw [show 0 - (d + 1) = 0 by omega]; exact World.ownsRow_nil _ _ _ _, hbel0⟩
  case round =>
    clear hown0 hbel0
    obtain ⟨k, hk, rfl, hown, hout, hbel⟩ := hrel
    by_cases hlt : k < m + 1
    · have hcl : wr.cell? ⟨g, k, none⟩ = some (.int .u64 (M.up b k)) := by
        rw [hown.cellAt k (by omega)]; unfold u64s; rw [List.getElem?_map, HL.out k (by omega)]; rfl
      obtain ⟨hu, hu2⟩ := HU.out k (by omega)
      obtain ⟨t1, t2⟩ := HT.out k (by omega)
      by_cases hc : k ≤ d
      · have hg := t1 (by rw [HD.out]; omega)
        have HO : Hid _ := hown
        have HOut : Hid _ := hout
        clear hown hout HL HT HU t1 t2 HP
        generalize M.up b (k : Int) = x at *
        go_wp2
        go_roundw
        case rel => exact ⟨k + 1, by omega, by go_num, HO.out, by rw [show k + 1 - (d + 1) = k - (d + 1) by omega]; exact HOut.out, hbel⟩
        case measure => simp [intOf]; omega
      · obtain ⟨hg, hA⟩ := t2 (by rw [HD.out]; omega)
        have HO : Hid (wr.ownsRow w.heap.size 22 1 (.slice (some ⟨g, 0, none⟩) (m + 1) cap) (m + 1) (u64s (M.chainL b))) := hown
        have HPk : Hid _ := HP.out k (by omega) (by omega)
        clear hown HL HT HU t1 t2 HP
        generalize M.up b (k : Int) = x at *
        go_wp2_with (first | (go_at_call 42; refine (is_any _ _ _ (by omega) (by omega)).mono ?_; rintro e w3 ⟨rfl, hb3⟩; have hout3 := own_kept hout hb3) | (at_builtin; refine wpList_append_own _ rfl _ _ 39 rfl w.heap.size 3 i0 (.int .i64 0) 1 8 Try.underlying39 hi hz0 hz1 hz2 rfl (by decide) _ _ _ rfl (hout3.alloc _) ⟨w3.heap.size, 0, none⟩ 1 1 [.int .i64 (x % 2)] rfl rfl ?c1 ?c2 ?c3 ?c4 ?c5 ?_))
        case c1 =>
          intro j u hj
          match j, hj with
          | 0, hj => simp at hj; subst hj; simp [Addr.add]
        case c2 => intro u hu; simp at hu; subst hu; rfl
        case c3 => unfold maxLen; omega
        case c4 => omega
        case c5 => have := hbel.size; have := hb3.size; simp; omega
        intro v' w4 hown4 hgrow4 _
        have hb4 : Below w.heap.size w w4 := ((below_trans hbel hb3).alloc (below_trans hbel hb3).size _).grown hgrow4 (by have := (below_trans hbel hb3).size; simp; omega) (fun k hk => (hout3.lt k hk).1)
        have hch : w4.ownsRow w.heap.size 22 1 (.slice (some ⟨g, 0, none⟩) (m + 1) cap) (m + 1) (u64s (M.chainL b)) :=
          ((own_kept HO.out hb3).alloc _).kept hgrow4 (.inr (fun he => own_apart (own_kept HO.out hb3) hout3 (by decide) he.symm))
        have HOut : Hid (w4.ownsRow w.heap.size 3 1 v' (k + 1 - (d + 1)) (ints ((M.pathL a b).take (k + 1 - (d + 1))))) := by
          show World.ownsRow _ _ _ _ _ _ _
          rw [HPk.out, show k + 1 - (d + 1) = k - (d + 1) + 1 by omega]; unfold ints; rw [List.map_append, List.map_take]; exact hown4
        have HCh : Hid _ := hch
        clear hown4 hgrow4 hout3 hout hch
        go_wp2
        go_roundw
        case rel => exact ⟨k + 1, by omega, by go_num, HCh.out, HOut.out, hb4⟩
        case measure => simp [intOf]; omega
    · obtain rfl : k = m + 1 := by omega
      have hfin := hout
      rw [show m + 1 - (d + 1) = (M.pathL a b).length by rw [HLen.out]; omega, List.take_length] at hfin
      clear hown hout HL HT HU HP
      go_wp2
      go_ret2
      exact ⟨_, rfl, hfin, hbel⟩
end Go.Proofs.Ytonjdnjeemcilaa
