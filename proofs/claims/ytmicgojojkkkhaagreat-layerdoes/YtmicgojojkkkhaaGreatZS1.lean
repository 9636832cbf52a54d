/-
  A slice of numbers in memory, as a list; it stays while what lay there stays. Small facts. No condition.
-/
import Derived.Test.YtmicgojojkkkhaaGreatZLM
import Derived.Test.YtmicgojojkkkhaaGreatZR1
import Derived.Deep.RegionWith
namespace Go.Proofs.YtmicgojojkkkhaaGreat
open Go.RowKit
theorem hid {p : Prop} (h : p) : Hid p := h
/-- the slice value v holds the numbers L -/
def Us (W : World) (v : Value) (L : List Int) : Prop :=
  ∃ ao cap, v = .slice ao L.length cap ∧ L.length ≤ cap ∧ cap ≤ maxLen ∧ (∀ x ∈ L, 0 ≤ x ∧ x ≤ 18446744073709551615) ∧
    (0 < cap → ∃ b off, ao = some ⟨b, off, none⟩ ∧ b < W.heap.size ∧ ∀ j, j < L.length → W.cell? ⟨b, off + j, none⟩ = some (.int .u64 (L[j]?.getD 0)))
theorem Us.below {W W' : World} {v : Value} {L : List Int} (h : Us W v L) (hb : Below W.heap.size W W') : Us W' v L := by
  obtain ⟨ao, cap, h1, h2, h3, h4, h5⟩ := h
  refine ⟨ao, cap, h1, h2, h3, h4, fun h0 => ?_⟩
  obtain ⟨b, off, h6, h7, h8⟩ := h5 h0
  exact ⟨b, off, h6, Nat.lt_of_lt_of_le h7 hb.size, fun j hj => (hb.cell (p := ⟨b, off + j, none⟩) h7).trans (h8 j hj)⟩
theorem Us.alloc {W : World} {v : Value} {L : List Int} (h : Us W v L) (o : Obj) : Us (W.alloc o) v L := h.below ((Below.refl _ _).alloc (Nat.le_refl _) o)
theorem getD_mem {L : List Int} {P : Int → Prop} (h : ∀ x ∈ L, P x) (k : Nat) (hk : k < L.length) : P (L[k]?.getD 0) := by
  have : L[k]?.getD 0 = L[k] := by simp [hk]
  rw [this]; exact h _ (List.getElem_mem hk)
theorem drop_getD {L : List Int} (k : Nat) (hk : k < L.length) : L.drop k = L[k]?.getD 0 :: L.drop (k + 1) := by
  rw [List.drop_eq_getElem_cons hk]; simp [hk]
theorem take_getD {L : List Int} (k : Nat) (hk : k < L.length) : L.take (k + 1) = L.take k ++ [L[k]?.getD 0] := by
  rw [List.take_succ_eq_append_getElem hk]; simp [hk]
theorem Us.of_own {W : World} {base : Nat} {e : TypeId} {v : Value} {n : Nat} {L : List Int} (h : W.ownsRow base e 1 v n (u64s L)) (hb : ∀ x ∈ L, 0 ≤ x ∧ x ≤ 18446744073709551615) : Us W v L := by
  have hn : L.length = n := by have := h.1; simpa using this
  rcases h.2 with ⟨h1, h2⟩ | ⟨g, cap, cur, h1, h2, h3, h4, h5, h6, h7⟩
  · exact ⟨none, 0, by rw [h1, hn, h2], by omega, by simp [maxLen], hb, fun h0 => by omega⟩
  · refine ⟨some ⟨g, 0, none⟩, cap, by rw [h1, hn], by omega, h5, hb, fun h0 => ⟨g, 0, rfl, (Array.getElem?_eq_some_iff.1 h3).1, fun j hj => ?_⟩⟩
    subst h1
    rw [Nat.zero_add, h.cellAt j (by omega)]
    unfold u64s
    rw [List.getElem?_map, List.getElem?_eq_getElem hj]
    simp
/-- a part of it -/
theorem Us.part {W : World} {b off cap n : Nat} {L : List Int} (h : Us W (.slice (some ⟨b, off, none⟩) n cap) L) (lo hi : Nat) (h1 : lo ≤ hi) (h2 : hi ≤ n) (h3 : ¬ cap = lo) : Us W (.slice (some ⟨b, off + lo, none⟩) (hi - lo) (cap - lo)) ((L.drop lo).take (hi - lo)) := by
  obtain ⟨ao, cap', e, q1, q2, q3, q4⟩ := h
  simp only [Value.slice.injEq] at e
  obtain ⟨rfl, rfl, rfl⟩ := e
  obtain ⟨b', off', e, q5, q6⟩ := q4 (by omega)
  cases e
  have hlen : ((L.drop lo).take (hi - lo)).length = hi - lo := by simp; omega
  refine ⟨_, _, by rw [hlen], by omega, by omega, fun x hx => q3 x (List.mem_of_mem_drop (List.mem_of_mem_take hx)), fun _ => ⟨b, off + lo, rfl, q5, fun j hj => ?_⟩⟩
  rw [hlen] at hj
  rw [Nat.add_assoc, q6 (lo + j) (by omega), List.getElem?_take, if_pos hj, List.getElem?_drop]
theorem Us.empty {W : World} {ao : Option Addr} : Us W (.slice ao 0 0) [] := ⟨ao, 0, rfl, by simp, by simp [maxLen], by simp, fun h => by omega⟩
theorem Us.fits {W : World} {v : Value} {L : List Int} (h : Us W v L) : ∀ x ∈ L, 0 ≤ x ∧ x ≤ 18446744073709551615 := by
  obtain ⟨_, _, _, _, _, q, _⟩ := h; exact q
theorem Us.drew {W : World} {v : Value} {L : List Int} (h : Us W v L) : Us W.drew v L := h.below (Below.refl _ _).drew
theorem Us.nil (W : World) : Us W (.slice none 0 0) [] := ⟨none, 0, rfl, by simp, by simp [maxLen], by simp, fun h => by simp at h⟩
end Go.Proofs.YtmicgojojkkkhaaGreat
namespace Go.Proofs.YtmicgojojkkkhaaGreat
open Go.RowKit
def M.lastV (h : Int) : Int := if M.htB h then M.p2 h - 1 else 0
def M.setLast (h : Int) (L : List Int) : Int := if M.setB h L then M.p2 h - 1 else 0
def M.lastE (h : Int) : Int := if M.htB h then 0 else 1
set_option maxRecDepth 100000 in
set_option maxHeartbeats 400000 in
theorem lastLeaf_any (h : Int) (w : World) :
    Calls Tryz.prog 104 #[.int .i64 h] w fun e w' => e = .returned (.tuple #[.int .u64 (M.lastV h), .int .i64 (M.lastE h)]) ∧ Below w.heap.size w w' := by
  have e1 : M.highV h 1 = M.lastV h := M.highV_one h
  have e2 : M.eChk h 1 = M.lastE h := M.eChk_one h
  have e3 := M.lowV_one h
  go_enter Tryz.func104, Tryz.ntmps104
  go_wp2_with (first | (go_at_call 55; refine (leaves_any _ _ _ (by omega) (by omega)).mono ?_; rintro e w1 ⟨rfl, hb1⟩))
  go_ret2
  exact ⟨rfl, hb1.alloc hb1.size _⟩
set_option maxRecDepth 100000 in
set_option maxHeartbeats 400000 in
theorem isSet_any (L : List Int) (v : Value) (last : Int) (w : World) (hu : Us w v L) (h0 : 0 ≤ last) (h1 : last ≤ 4294967295) :
    Calls Tryz.prog 105 #[v, .int .u64 last] w fun e w' => e = .returned (.bool (decide (L.length ≤ 1024) && M.rise 0 last L)) ∧ w' = w := by
  obtain ⟨ao, cap, rfl, hq1, hq2, hq3, hq4⟩ := hu
  have HQ3 : Hid (∀ k, k < L.length → 0 ≤ L[k]?.getD 0 ∧ L[k]?.getD 0 ≤ 18446744073709551615) := fun k hk => getD_mem hq3 k hk
  have HD : Hid (∀ k, k < L.length → L.drop k = L[k]?.getD 0 :: L.drop (k + 1)) := fun k hk => drop_getD k hk
  by_cases hl : L.length ≤ 1024
  · have hd : decide (L.length ≤ 1024) = true := by simpa using hl
    rw [hd, Bool.true_and]
    generalize hn : L.length = n at *
    have Hn : Hid (L.length = n) := hn
    clear hq3 hd hn
    go_enter Tryz.func105, Tryz.ntmps105
    go_wp2
    go_loop [13, 5] (fun i t => ∃ (k : Nat) (x : Int), k ≤ n ∧ i = .int .i64 k ∧ t = .int .u64 x ∧ 0 ≤ x ∧ x ≤ 4294967296 ∧ M.rise 0 last L = M.rise x last (L.drop k)) (fun i _ => n - (intOf i).toNat)
    case atStart => exact ⟨0, 0, by omega, rfl, rfl, by omega, by omega, by rw [List.drop_zero]⟩
    case round =>
      obtain ⟨k, x, hk, rfl, rfl, hx0, hx1, hR⟩ := hrel
      by_cases hlt : k < n
      · obtain ⟨b, off, rfl, hb, hc⟩ := hq4 (by omega)
        have hcell := hc k hlt
        obtain ⟨y0, y1⟩ := HQ3.out k hlt
        rw [HD.out k hlt] at hR
        generalize L[k]?.getD 0 = y at *
        simp only [M.rise] at hR
        have HR : Hid (M.rise 0 last L = (decide (x ≤ y) && decide (y ≤ last) && M.rise (y + 1) last (L.drop (k + 1)))) := hR
        clear hR hc HD HQ3 hq4
        by_cases c1 : x ≤ y
        · by_cases c2 : y ≤ last
          · have g1 : ¬ (y < x) := by omega
            have g2 : ¬ (last < y) := by omega
            go_wp2
            go_round
            case rel => exact ⟨k + 1, y + 1, by omega, by go_num, by go_num, by omega, by omega, by rw [HR.out]; simp [c1, c2]⟩
            case measure => simp [intOf]; omega
          · have g1 : ¬ (y < x) := by omega
            have g2 : (last < y) := by omega
            have HF : Hid (M.rise 0 last L = false) := by show _ = _; rw [HR.out]; simp [c2]
            clear HR
            go_wp2
            go_ret
            exact ⟨M.ret_bool HF.out.symm, rfl⟩
        · have g1 : (y < x) := by omega
          have HF : Hid (M.rise 0 last L = false) := by show _ = _; rw [HR.out]; simp [c1]
          clear HR
          go_wp2
          go_ret
          exact ⟨M.ret_bool HF.out.symm, rfl⟩
      · obtain rfl : k = n := by omega
        have HR : Hid (M.rise 0 last L = true) := by
          show _ = _
          rw [hR, ← Hn.out, List.drop_length]; rfl
        clear hR HD HQ3 hq4
        go_wp2
        go_ret
        exact ⟨M.ret_bool HR.out.symm, rfl⟩
  · have hd : decide (L.length ≤ 1024) = false := by simpa using hl
    rw [hd, Bool.false_and]
    have hm : L.length ≤ maxLen := by omega
    unfold maxLen at hm
    clear hq3 hd HQ3 HD hq4
    generalize hn : L.length = n at *
    go_enter Tryz.func105, Tryz.ntmps105
    go_wp2
    go_ret
    exact ⟨rfl, rfl⟩
set_option maxRecDepth 100000 in
set_option maxHeartbeats 400000 in
theorem checkSet_any (h : Int) (L : List Int) (v : Value) (w : World) (hu : Us w v L) :
    Calls Tryz.prog 89 #[.int .i64 h, v] w fun e w' => e = .returned (.tuple #[.int .u64 (M.setLast h L), .int .i64 (M.setE h L)]) ∧ Below w.heap.size w w' := by
  cases hh : M.htB h
  · have e1 : M.lastE h = 1 := by unfold M.lastE; rw [hh]; rfl
    have e2 : M.setB h L = false := by unfold M.setB; rw [hh]; rfl
    have e3 : M.setE h L = 1 := by unfold M.setE; rw [e2]; rfl
    have e5 : M.setLast h L = 0 := by unfold M.setLast; rw [e2]; rfl
    rw [e5, e3]
    clear hh
    go_enter Tryz.func89, Tryz.ntmps89
    go_wp2_with (first | (go_at_call 104; refine (lastLeaf_any _ _).mono ?_; rintro e w1 ⟨rfl, hb1⟩))
    go_ret2
    exact ⟨rfl, hb1⟩
  · have e1 : M.lastE h = 0 := by unfold M.lastE; rw [hh]; rfl
    have e2 : M.lastV h = M.p2 h - 1 := by unfold M.lastV; rw [hh]; rfl
    obtain ⟨h1, h2⟩ := M.ht_of hh
    have h3 := M.p2_32 h2
    have h4 := M.p2_pos h
    cases hs : (decide (L.length ≤ 1024) && M.rise 0 (M.p2 h - 1) L)
    · have e4 : M.setB h L = false := by unfold M.setB; rw [hh, Bool.and_assoc, hs]; rfl
      have e3 : M.setE h L = 1 := by unfold M.setE; rw [e4]; rfl
      have e5 : M.setLast h L = 0 := by unfold M.setLast; rw [e4]; rfl
      rw [e5, e3]
      go_enter Tryz.func89, Tryz.ntmps89
      go_wp2_with (first | (go_at_call 104; refine (lastLeaf_any _ _).mono ?_; rintro e w1 ⟨rfl, hb1⟩) | (go_at_call 105; refine (isSet_any L _ _ _ (hu.below hb1) (by omega) (by omega)).mono ?_; rintro e w' ⟨rfl, hw⟩; subst w'))
      go_ret2
      exact ⟨rfl, hb1⟩
    · have e4 : M.setB h L = true := by unfold M.setB; rw [hh, Bool.and_assoc, hs]; rfl
      have e3 : M.setE h L = 0 := by unfold M.setE; rw [e4]; rfl
      have e5 : M.setLast h L = M.p2 h - 1 := by unfold M.setLast; rw [e4]; rfl
      rw [e5, e3]
      go_enter Tryz.func89, Tryz.ntmps89
      go_wp2_with (first | (go_at_call 104; refine (lastLeaf_any _ _).mono ?_; rintro e w1 ⟨rfl, hb1⟩) | (go_at_call 105; refine (isSet_any L _ _ _ (hu.below hb1) (by omega) (by omega)).mono ?_; rintro e w' ⟨rfl, hw⟩; subst w'))
      go_ret2
      exact ⟨rfl, hb1⟩
set_option maxRecDepth 100000 in
set_option maxHeartbeats 400000 in
theorem setCheck_any (h : Int) (L : List Int) (v : Value) (w : World) (hu : Us w v L) :
    Calls Tryz.prog 68 #[.int .i64 h, v] w fun e w' => e = .returned (.int .i64 (M.setE h L)) ∧ Below w.heap.size w w' := by
  go_enter Tryz.func68, Tryz.ntmps68
  go_wp2_with (first | (go_at_call 89; refine (checkSet_any _ L _ _ hu).mono ?_; rintro e w1 ⟨rfl, hb1⟩))
  go_ret
  exact ⟨rfl, hb1⟩
end Go.Proofs.YtmicgojojkkkhaaGreat
namespace Go.Proofs.YtmicgojojkkkhaaGreat
open Go.RowKit
set_option maxRecDepth 100000 in
set_option maxHeartbeats 400000 in
theorem isNaN_cmp (x : Int) (w : World) : Calls Tryz.prog 117 #[.int .u64 x] w fun e w' => e = .returned (.bool false) ∧ w' = w := by
  go_enter Tryz.func117, Tryz.ntmps117
  go_wp2
  go_ret
  exact ⟨rfl, rfl⟩
set_option maxRecDepth 100000 in
set_option maxHeartbeats 400000 in
theorem isNaN_any (x : Int) (w : World) : Calls Tryz.prog 108 #[.int .u64 x] w fun e w' => e = .returned (.bool false) ∧ w' = w := by
  go_enter Tryz.func108, Tryz.ntmps108
  go_wp2
  go_ret
  exact ⟨rfl, rfl⟩
set_option maxRecDepth 100000 in
set_option maxHeartbeats 400000 in
theorem less_any (x y : Int) (w : World) : Calls Tryz.prog 107 #[.int .u64 x, .int .u64 y] w fun e w' => e = .returned (.bool (decide (x < y))) ∧ w' = w := by
  by_cases h : x < y
  · have hd : decide (x < y) = true := by simpa using h
    rw [hd]
    go_enter Tryz.func107, Tryz.ntmps107
    go_wp2_with (first | (go_at_call 117; refine (isNaN_cmp _ _).mono ?_; rintro e w' ⟨rfl, hw⟩; subst w'))
    go_ret
    exact ⟨rfl, rfl⟩
  · have hd : decide (x < y) = false := by simpa using h
    rw [hd]
    go_enter Tryz.func107, Tryz.ntmps107
    go_wp2_with (first | (go_at_call 117; refine (isNaN_cmp _ _).mono ?_; rintro e w' ⟨rfl, hw⟩; subst w'))
    go_ret
    exact ⟨rfl, rfl⟩
namespace M
theorem rising_lt {L : List Int} (h : L.Pairwise (· < ·)) {a b : Nat} (hab : a < b) (hb : b < L.length) : L[a]?.getD 0 < L[b]?.getD 0 := by
  have := List.pairwise_iff_getElem.1 h a b (by omega) hb hab
  simpa [show a < L.length by omega, hb] using this
theorem pos_lt {L : List Int} {x : Int} (h : L.Pairwise (· < ·)) {a : Nat} (ha : a < L.length) : a < pos L x ↔ L[a]?.getD 0 < x := by
  have hp := partsL x h
  have hg : L[a]? = (L.filter (fun y => decide (y < x)) ++ L.filter (fun y => decide (x ≤ y)))[a]? := by rw [hp]
  constructor
  · intro hlt
    rw [List.getElem?_append_left hlt] at hg
    have hm := List.getElem_mem hlt
    rw [hg, List.getElem?_eq_getElem hlt]
    simpa using (List.mem_filter.1 hm).2
  · intro hlt
    apply Classical.byContradiction
    intro hge
    rw [List.getElem?_append_right (by unfold pos at hge; omega)] at hg
    have hlen : (L.filter (fun y => decide (y < x))).length + (L.filter (fun y => decide (x ≤ y))).length = L.length := by
      rw [← List.length_append, hp]
    have hin : a - (L.filter (fun y => decide (y < x))).length < (L.filter (fun y => decide (x ≤ y))).length := by unfold pos at hge; omega
    have hm := List.getElem_mem hin
    rw [hg, List.getElem?_eq_getElem hin] at hlt
    have := (List.mem_filter.1 hm).2
    simp at this hlt
    omega
theorem has_pos {L : List Int} {x : Int} (h : L.Pairwise (· < ·)) : has L x = true ↔ pos L x < L.length ∧ L[pos L x]?.getD 0 = x := by
  constructor
  · intro hh
    have h1 := drop_pos (i := x) h
    rw [filter_ge_in h hh] at h1
    have h2 := (out_parts h hh).1
    have h3 := congrArg (fun l => l[0]?) h1
    simp at h3
    exact ⟨by omega, by rw [h3]; rfl⟩
  · rintro ⟨h1, h2⟩
    unfold has
    simp only [decide_eq_true_eq]
    rw [← h2]
    simp only [h1, getElem?_pos, Option.getD_some]
    exact List.getElem_mem h1
end M
set_option maxRecDepth 100000 in
set_option maxHeartbeats 1000000 in
theorem search_any (L : List Int) (v : Value) (x : Int) (w : World) (hu : Us w v L) (hL : L.Pairwise (· < ·)) (hlen : L.length ≤ 1024) :
    Calls Tryz.prog 92 #[v, .int .u64 x] w fun e w' => e = .returned (.tuple #[.int .i64 (M.pos L x), .bool (M.has L x)]) ∧ w' = w := by
  obtain ⟨ao, cap, rfl, hq1, hq2, hq3, hq4⟩ := hu
  have HP : Hid (∀ a, a < L.length → (a < M.pos L x ↔ L[a]?.getD 0 < x)) := fun a ha => M.pos_lt hL ha
  have HH : Hid (M.has L x = true ↔ M.pos L x < L.length ∧ L[M.pos L x]?.getD 0 = x) := M.has_pos hL
  have HPL := M.pos_le L x
  generalize hp : M.pos L x = p at *
  generalize hn : L.length = n at *
  clear hq3 hp hn hL
  go_enter Tryz.func92, Tryz.ntmps92
  go_wp2
  go_loop [7, 8] (fun i j => ∃ a b : Nat, i = .int .i64 a ∧ j = .int .i64 b ∧ a ≤ p ∧ p ≤ b ∧ b ≤ n) (fun i j => (intOf j - intOf i).toNat)
  case atStart => exact ⟨0, n, rfl, rfl, by omega, HPL, Nat.le_refl _⟩
  case round =>
    obtain ⟨a, b, rfl, rfl, ha, hb, hbn⟩ := hrel
    by_cases hlt : a < b
    · obtain ⟨bl, off, rfl, hbl, hc⟩ := hq4 (by omega)
      have hcell := hc ((a + b) / 2) (by omega)
      have hpa := HP.out ((a + b) / 2) (by omega)
      have e1 : ((a : Int) + b) / 2 = (((a + b) / 2 : Nat) : Int) := by omega
      have m1 : a ≤ (a + b) / 2 := by omega
      have m2 : (a + b) / 2 < b := by omega
      clear hc hq4 HP HH
      generalize hm : (a + b) / 2 = m at *
      generalize L[m]?.getD 0 = y at *
      by_cases hy : y < x
      · have hp2 : m < p := hpa.2 hy
        clear hpa
        go_wp2_with (first | (go_at_call 107; refine (less_any _ _ _).mono ?_; rintro e w' ⟨rfl, hw⟩; subst w'))
        go_round
        case rel => exact ⟨m + 1, b, by go_num, rfl, by omega, by omega, by omega⟩
        case measure => simp [intOf]; omega
      · have hp2 : ¬ m < p := fun hh => hy (hpa.1 hh)
        clear hpa
        go_wp2_with (first | (go_at_call 107; refine (less_any _ _ _).mono ?_; rintro e w' ⟨rfl, hw⟩; subst w'))
        go_round
        case rel => exact ⟨a, m, rfl, by go_num, by omega, by omega, by omega⟩
        case measure => simp [intOf]; omega
    · obtain rfl : a = p := by omega
      obtain rfl : b = a := by omega
      by_cases hbn' : b < n
      · obtain ⟨bl, off, rfl, hbl, hc⟩ := hq4 (by omega)
        have hcell := hc b (by omega)
        have hh := HH.out
        clear hc hq4 HP HH
        generalize L[b]?.getD 0 = y at *
        by_cases hy : y = x
        · subst hy
          have HF : Hid (M.has L y = true) := hh.2 ⟨hbn', rfl⟩
          clear hh
          go_wp2
          go_ret2
          exact ⟨by rw [HF.out]; first | done | rfl, rfl⟩
        · have HF : Hid (M.has L x = false) := by
            show _ = _
            rw [Bool.eq_false_iff]
            exact fun e => hy (hh.1 e).2
          clear hh
          have g1 : (y == x) = false := by rw [beq_eq_false_iff_ne]; exact hy
          go_wp2
          go_ret2
          exact ⟨by rw [HF.out]; first | done | rfl, rfl⟩
      · have HF : Hid (M.has L x = false) := by
          show _ = _
          rw [Bool.eq_false_iff]
          exact fun e => hbn' (HH.out.1 e).1
        clear HP HH hq4
        go_wp2
        go_ret2
        exact ⟨by rw [HF.out]; first | done | rfl, rfl⟩
end Go.Proofs.YtmicgojojkkkhaaGreat
namespace Go.Proofs.YtmicgojojkkkhaaGreat
open Go.RowKit
theorem M.setE_yes {h : Int} {L : List Int} (hs : M.setB h L = true) : M.setE h L = 0 := by unfold M.setE; rw [hs]; rfl
theorem M.setE_no {h : Int} {L : List Int} (hs : M.setB h L = false) : M.setE h L = 1 := by unfold M.setE; rw [hs]; rfl
theorem M.leafE_is {h i : Int} (hs : M.isB h i = true) : M.leafE h i = 0 := by
  unfold M.isB at hs
  simp only [Bool.and_eq_true, decide_eq_true_eq] at hs
  exact M.leafE_yes (M.ht_of hs.1).1 (M.ht_of hs.1).2 hs.2
theorem M.leafE_isnt {h i : Int} (hs : M.isB h i = false) : (M.leafE h i != 0) = true := by
  rw [bne_iff_ne]
  intro e
  unfold M.leafE at e
  unfold M.isB at hs
  cases hh : M.htB h
  · rw [hh] at e; simp at e
  · rw [hh] at e hs; simp at e hs; omega
end Go.Proofs.YtmicgojojkkkhaaGreat
