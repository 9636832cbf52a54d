/-
  How many useful subsets are beside the way to a leaf; what the document's own Pairs answers. Conditions: numbers fit their kind.
-/
import Derived.Test.YthmiekinjfaflaaZI1
import Derived.Test.YthmiekinjfaflaaZTR
namespace Go.Proofs.Ythmiekinjfaflaa
open Go.RowKit
set_option maxRecDepth 100000 in
theorem own_cellu {W : World} {base g n cap : Nat} {L : List Int} (h : W.ownsRow base 22 1 (.slice (some ⟨g, 0, none⟩) n cap) n (u64s L)) {k : Nat} {x : Int} (hk : L[k]? = some x) : W.cell? ⟨g, k, none⟩ = some (.int .u64 x) := by
  have hl := (List.getElem?_eq_some_iff.1 hk).1
  have h1 := h.1
  have h2 : (u64s L).length = L.length := by simp [u64s]
  rw [h.cellAt k (by omega)]
  simp [u64s, hk]
theorem own_cap {W : World} {base g n cap : Nat} {e : TypeId} {xs : List Value} (h : W.ownsRow base e 1 (.slice (some ⟨g, 0, none⟩) n cap) n xs) : n ≤ cap ∧ cap ≤ 9223372036854775807 := by
  rcases h.2 with ⟨h1, h2⟩ | ⟨g', cap', cur, h1, h2, h3, h4, h5, h6, h7⟩
  · cases h1
  · cases h1; unfold maxLen at h5; omega
set_option maxRecDepth 100000 in
set_option maxHeartbeats 2000000 in
theorem rlpairs_yes (m : Nat) (w : World) (hm1 : 1 ≤ m) (hm32 : m ≤ 32) :
    Calls Try.prog 27 #[.int .i64 m] w fun e w' => e = .returned (.tuple #[.int .i64 (M.cA m m (m + 1) : Nat), .int .i64 0]) ∧ Below w.heap.size w w' := by
  obtain ⟨H, hH⟩ : ∃ H : Int, (m : Int) = H := ⟨_, rfl⟩
  have s1 : 1 ≤ H := by omega
  have s2 : H ≤ 32 := by omega
  have hp := M.p2_pos H
  have hp32 := M.p2_32 s2
  have hlE : M.leafE H 0 = 0 := M.leafE_yes s1 s2 (by omega)
  obtain ⟨n, hn⟩ : ∃ n, M.p2 H = n := ⟨_, rfl⟩
  have hlV : M.leafV H 0 = n := by rw [(M.leaf_facts (Int.le_refl 0) hlE).1, ← hn, Int.add_zero]
  have hn0 : 1 ≤ n := by omega
  have hn1 : n ≤ 18446744073709551615 := by omega
  have hnd : M.dep n = m := by rw [hH, ← hn]; exact (M.dep_iff (M.p2 H) H (by omega) (by omega)).2 ⟨Int.le_refl _, by omega⟩
  have HCH := hidq (fun W => chain_any m n W hn0 hn1 hnd)
  have HLF := hidq (fun W => rleaf_any H 0 W (by omega) (by omega))
  rw [hlE, hlV] at HLF
  have HAt := hidq (fun k (hk : k < m + 1) => show (M.chainL n)[k]? = some (M.p2 k) by
    rw [M.chainL_at n k (by rw [hnd]; omega), ← hn, M.up_p2 (by omega)])
  have HPk := hidq (fun (k : Nat) (hk : k ≤ m) => show 1 ≤ M.p2 k ∧ M.p2 k ≤ 4294967296 from ⟨M.p2_pos _, M.p2_32 (by omega)⟩)
  have HL := hidq (fun i => M.cA_le H m i)
  have HLc := hidq (fun i q => M.c1_le H i q)
  have HA := hidq (fun i => show M.cA H m (i + 1) = M.cA H m i + M.c1 H i (m - i) from rfl)
  have HC := hidq (fun i q => show M.c1 H i (q + 1) = M.c1 H i q + (if M.useV H (M.p2 i) (M.p2 ((i + 1 + q : Nat) : Int) + 1) = true then 1 else 0) from rfl)
  have UU := hidq (fun (i q : Nat) W h0 h1 h2 h3 => ruseful_any H (M.p2 i) (M.p2 ((i + 1 + q : Nat) : Int) + 1) W h0 h1 h2 h3)
  rw [hH]
  clear hn hH hlE hlV hn0 hn1 hnd hp hp32 s1 s2
  generalize M.chainL n = CL at *
  go_enter Try.func27, Try.ntmps27
  go_wp2_with (first | (go_at_call 22; refine (HLF.out _).mono ?_; rintro e w' ⟨rfl, hw⟩; subst w') | (go_at_call 23; refine (HCH.out _).mono ?_; rintro e w1 ⟨g, cap, rfl, own1, hb1⟩; have O1 := hidq own1; have B1 := hidq hb1; have C1 := hidq (own_cap own1); clear own1 hb1))
  go_loopw [26, 6] (fun a b wr => ∃ i : Nat, i ≤ m + 1 ∧ a = .int .i64 i ∧ b = .int .i64 ((M.cA H m i : Nat) : Int) ∧ Below w1.heap.size w1 wr) (fun a _ _ => m + 1 - (intOf a).toNat)
  case atStart => exact ⟨0, by omega, rfl, rfl, Below.refl _ _⟩
  case round =>
    obtain ⟨i, hi, rfl, rfl, hb⟩ := hrel
    have BX := hidq hb
    obtain ⟨C1a, C1b⟩ := C1.out
    by_cases hin : i < m + 1
    · have hii : (i : Int) < (m : Int) + 1 := by omega
      have hii2 : (i : Int) < ((m + 1 : Nat) : Int) := by omega
      have ci := own_cellu (own_kept O1.out hb) (HAt.out i hin)
      obtain ⟨P1, hP1⟩ : ∃ P1, M.p2 i = P1 := ⟨_, rfl⟩
      rw [hP1] at ci
      have HP1 := hidq hP1
      clear hP1
      have hwi : IntKind.i64.wrap ((i : Int) + 1) = (i : Int) + 1 := by rw [IntKind.wrap_i64]; omega
      have hit : ((i : Int) + 1).toNat = i + 1 := by omega
      have hile : i + 1 ≤ m + 1 := by omega
      have hile2 : (i : Int) + 1 ≤ (m : Int) + 1 := by omega
      clear hb
      by_cases hcap : cap = i + 1
      · subst hcap
        go_wp2
        go_loopw [36, 6] (fun a b wr => ∃ q : Nat, q ≤ m - i ∧ a = .int .i64 q ∧ b = .int .i64 ((M.cA H m i + M.c1 H i q : Nat) : Int) ∧ Below w1.heap.size w1 wr) (fun a _ _ => m - i - (intOf a).toNat)
        case atStart => exact ⟨0, by omega, rfl, rfl, BX.out⟩
        case round =>
          obtain ⟨q, hq, rfl, rfl, hbq⟩ := hrel
          have HBQ := hidq hbq
          by_cases hqn : q < m - i
          · exact absurd hqn (by omega)
          · obtain rfl : q = m - i := by omega
            have hqi2 : ¬ ((m - i : Nat) : Int) < ((m + 1 - (i + 1) : Nat) : Int) := by omega
            have hqi3 : ¬ (m - i) < m + 1 - (i + 1) := by omega
            clear hbq
            go_wp2
            go_roundw
            case rel => exact ⟨i + 1, by omega, by go_num, by rw [HA.out]; (try go_num), HBQ.out⟩
            case measure => simp [intOf]; omega
      · have hcap2 : ¬ cap - (i + 1) = 0 := by omega
        go_wp2
        go_loopw [36, 6] (fun a b wr => ∃ q : Nat, q ≤ m - i ∧ a = .int .i64 q ∧ b = .int .i64 ((M.cA H m i + M.c1 H i q : Nat) : Int) ∧ Below w1.heap.size w1 wr) (fun a _ _ => m - i - (intOf a).toNat)
        case atStart => exact ⟨0, by omega, rfl, rfl, BX.out⟩
        case round =>
          obtain ⟨q, hq, rfl, rfl, hbq⟩ := hrel
          have HBQ := hidq hbq
          by_cases hqn : q < m - i
          · have hqi : (q : Int) < (m : Int) - i := by omega
            have hqi2 : (q : Int) < ((m + 1 - (i + 1) : Nat) : Int) := by omega
            have hqi3 : q < m + 1 - (i + 1) := by omega
            have cq := own_cellu (own_kept O1.out hbq) (HAt.out (i + 1 + q) (by omega))
            obtain ⟨p1, p2⟩ := HPk.out i (by omega)
            obtain ⟨p3, p4⟩ := HPk.out (i + 1 + q) (by omega)
            have UC := hidq (fun W => UU.out i q W (by omega) (by omega) (by omega) (by omega))
            have hc1 := HC.out i q
            have hl1 := HLc.out i q
            have hl2 := HL.out i
            have hl3 : i * m ≤ 32 * 32 := Nat.mul_le_mul (by omega) hm32
            generalize M.subE H (M.p2 i) (M.p2 ((i + 1 + q : Nat) : Int) + 1) = sE at *
            obtain ⟨r, hr⟩ : ∃ r, M.useV H (M.p2 i) (M.p2 ((i + 1 + q : Nat) : Int) + 1) = r := ⟨_, rfl⟩
            rw [hr] at UC hc1
            clear hr
            obtain ⟨P2, hP2⟩ : ∃ P2, M.p2 ((i + 1 + q : Nat) : Int) = P2 := ⟨_, rfl⟩
            rw [HP1.out] at UC p1 p2
            rw [hP2] at UC p3 p4 cq
            clear hP2
            have hw1 : IntKind.u64.wrap (P2 + 1) = P2 + 1 := M.wrapu_id (by omega) (by omega)
            generalize M.c1 H i q = A0 at *
            obtain ⟨A1, hA1⟩ : ∃ A1, M.c1 H i (q + 1) = A1 := ⟨_, rfl⟩
            rw [hA1] at hc1
            have HA1 := hidq hA1
            clear hA1
            generalize M.cA H m i = B0 at *
            have hw2 : IntKind.i64.wrap (((B0 + A0 : Nat) : Int) + 1) = ((B0 + A0 : Nat) : Int) + 1 := by rw [IntKind.wrap_i64]; omega
            have hw3 : IntKind.i64.wrap ((B0 : Int) + A0 + 1) = (B0 : Int) + A0 + 1 := by rw [IntKind.wrap_i64]; omega
            cases r with
            | true =>
              have HH1 := hidq (show A1 = A0 + 1 by simpa using hc1)
              clear hbq hc1
              go_wp2_with (first | (go_at_call 25; refine (UC.out _).mono ?_; rintro e w5 ⟨rfl, hb5⟩; have B5 := hidq (below_trans HBQ.out hb5); clear hb5))
              go_roundw
              case rel => exact ⟨q + 1, by omega, by go_num, by rw [HA1.out, HH1.out]; go_num, B5.out⟩
              case measure => simp [intOf]; omega
            | false =>
              have HH1 := hidq (show A1 = A0 by simpa using hc1)
              clear hbq hc1
              go_wp2_with (first | (go_at_call 25; refine (UC.out _).mono ?_; rintro e w5 ⟨rfl, hb5⟩; have B5 := hidq (below_trans HBQ.out hb5); clear hb5))
              go_roundw
              case rel => exact ⟨q + 1, by omega, by go_num, by rw [HA1.out, HH1.out]; go_num, B5.out⟩
              case measure => simp [intOf]; omega
          · obtain rfl : q = m - i := by omega
            have hqi2 : ¬ ((m - i : Nat) : Int) < ((m + 1 - (i + 1) : Nat) : Int) := by omega
            have hqi3 : ¬ (m - i) < m + 1 - (i + 1) := by omega
            clear hbq
            go_wp2
            go_roundw
            case rel => exact ⟨i + 1, by omega, by go_num, by rw [HA.out]; (try go_num), HBQ.out⟩
            case measure => simp [intOf]; omega
    · obtain rfl : i = m + 1 := by omega
      have hii : ¬ ((m + 1 : Nat) : Int) < ((m + 1 : Nat) : Int) := by omega
      clear hb
      go_wp2
      go_ret2
      exact ⟨rfl, below_trans B1.out BX.out⟩
set_option maxRecDepth 100000 in
theorem rlpairs_any (h : Int) (w : World) :
    Calls Try.prog 27 #[.int .i64 h] w fun e w' => e = .returned (.tuple #[.int .i64 (M.prV h), .int .i64 (M.prE h)]) ∧ Below w.heap.size w w' := by
  unfold M.prV M.prE
  cases hh : M.htB h with
  | false =>
    have hlE : M.leafE h 0 = 1 := by unfold M.leafE; rw [hh]; rfl
    have hlV : M.leafV h 0 = 0 := by unfold M.leafV; rw [hlE]; rfl
    go_enter Try.func27, Try.ntmps27
    go_wp2_with (go_at_call 22; refine (rleaf_any h 0 _ (by omega) (by omega)).mono ?_; rw [hlE, hlV]; rintro e w' ⟨rfl, hw⟩; subst w')
    go_ret2
    exact ⟨rfl, Below.refl _ _⟩
  | true =>
    obtain ⟨s1, s2⟩ := M.ht_of hh
    obtain ⟨m, rfl⟩ : ∃ m : Nat, h = m := ⟨h.toNat, by omega⟩
    exact rlpairs_yes m w (by omega) (by omega)
end Go.Proofs.Ythmiekinjfaflaa
