/-
  Plain mathematics: how many useful subsets are beside the way to a leaf, counted by the deeper node. No condition.
-/
import Derived.Test.YthmiekinjfaflaaZTR
import Derived.Test.YthmiekinjfaflaaZX50
namespace Go.Proofs.Ythmiekinjfaflaa
namespace M
/-- of a bottom of depth t those that are useful, of the first tops above it -/
def e1 (h : Int) (t : Nat) : Nat → Nat
  | 0 => 0
  | f + 1 => e1 h t f + (if useV h (p2 f) (p2 (t : Nat) + 1) = true then 1 else 0)
def eA (h : Int) : Nat → Nat
  | 0 => 0
  | t + 1 => eA h t + e1 h (t + 1) (t + 1)
theorem e1_le (h : Int) (t : Nat) : ∀ f, e1 h t f ≤ f
  | 0 => Nat.le_refl _
  | f + 1 => by
    have := e1_le h t f
    unfold e1
    split <;> omega
theorem eA_le (h : Int) : ∀ t, t ≤ 32 → eA h t ≤ t * 32
  | 0, _ => by simp [eA]
  | t + 1, ht => by
    have := eA_le h t (by omega)
    have := e1_le h (t + 1) (t + 1)
    unfold eA
    rw [Nat.succ_mul]; omega
theorem eA_all : ∀ h : Fin 32, eA ((h.val + 1 : Nat) : Int) (h.val + 1) = cA ((h.val + 1 : Nat) : Int) (h.val + 1) (h.val + 1 + 1) := by decide +kernel
theorem eA_eq {m : Nat} (h1 : 1 ≤ m) (h2 : m ≤ 32) : eA (m : Int) m = cA (m : Int) m (m + 1) := by
  have := eA_all ⟨m - 1, by omega⟩
  dsimp only at this
  rwa [show m - 1 + 1 = m by omega] at this
theorem up_pw {m k : Nat} (_h1 : 1 ≤ m) (h2 : m ≤ 32) (hk : k ≤ m) : upV (m : Int) (p2 m) k = p2 k := by
  have hp := p2_pos (m : Int)
  have hd : dep (p2 m) = m := (dep_iff (p2 m) m (by omega) (by omega)).2 ⟨Int.le_refl _, by omega⟩
  have ho : okB (m : Int) (p2 m) = true := by unfold okB; exact decide_eq_true ⟨by omega, by omega, by omega, by omega⟩
  have hE : upE (m : Int) (p2 m) k = 0 := by unfold upE; rw [if_pos ho, if_pos ⟨by omega, by rw [hd]; omega⟩]
  unfold upV
  rw [if_pos hE, up_p2 (by omega)]
theorem oth_pw {m t : Nat} (h1 : 1 ≤ t) (h2 : t ≤ m) (h3 : m ≤ 32) : othV (m : Int) (p2 t) = p2 t + 1 := by
  obtain ⟨s, rfl⟩ : ∃ s, t = s + 1 := ⟨t - 1, by omega⟩
  have hp := p2_pos (s : Int)
  have he : p2 ((s + 1 : Nat) : Int) = 2 * p2 s := by rw [show ((s + 1 : Nat) : Int) = (s : Int) + 1 by omega]; exact p2_succ _ (by omega)
  have hm : p2 ((s + 1 : Nat) : Int) ≤ p2 (m : Int) := p2_mono (by omega)
  have ho : okB (m : Int) (p2 ((s + 1 : Nat) : Int)) = true := by unfold okB; exact decide_eq_true ⟨by omega, by omega, by omega, by have := p2_pos (m : Int); omega⟩
  have hE : othE (m : Int) (p2 ((s + 1 : Nat) : Int)) = 0 := by unfold othE; rw [if_pos ho, if_neg (by omega)]
  unfold othV
  rw [if_pos hE]
  unfold oth
  rw [if_pos (by omega)]
end M
end Go.Proofs.Ythmiekinjfaflaa
namespace Go.Proofs.Ythmiekinjfaflaa
open Go.RowKit
set_option maxRecDepth 100000 in
set_option maxHeartbeats 2000000 in
theorem lpairs_yes (m : Nat) (w : World) (hm1 : 1 ≤ m) (hm32 : m ≤ 32) :
    Calls Try.prog 14 #[.int .i64 m] w fun e w' => e = .returned (.tuple #[.int .i64 (M.eA m m : Nat), .int .i64 0]) ∧ Below w.heap.size w w' := by
  obtain ⟨H, hH⟩ : ∃ H : Int, (m : Int) = H := ⟨_, rfl⟩
  have s1 : 1 ≤ H := by omega
  have s2 : H ≤ 32 := by omega
  have hp := M.p2_pos H
  have hp32 := M.p2_32 s2
  have hlE : M.leafE H 0 = 0 := M.leafE_yes s1 s2 (by omega)
  obtain ⟨n, hn⟩ : ∃ n, M.p2 H = n := ⟨_, rfl⟩
  have hlV : M.leafV H 0 = n := by rw [(M.leaf_facts (Int.le_refl 0) hlE).1, ← hn, Int.add_zero]
  have hn0 : 0 ≤ n := by omega
  have hn1 : n ≤ 18446744073709551615 := by omega
  have HLF := hidq (fun W => leaf_any H 0 W (by omega) (by omega))
  rw [hlE, hlV] at HLF
  have HPk := hidq (fun (k : Nat) (hk : k ≤ m) => show 1 ≤ M.p2 k ∧ M.p2 k ≤ 4294967296 from ⟨M.p2_pos _, M.p2_32 (by omega)⟩)
  have HUk := hidq (fun (k : Nat) (hk : k ≤ m) W => (show Calls Try.prog 28 #[.int .i64 H, .int .u64 n, .int .i64 (k : Int)] W fun e w' => e = .returned (.tuple #[.int .u64 (M.p2 k), .int .i64 (M.upE H n k)]) ∧ w' = W by
    have := up_any H n (k : Int) W hn0 hn1
    rwa [← hn, ← hH, M.up_pw hm1 hm32 hk, hH, hn] at this))
  have HOk := hidq (fun (k : Nat) (hk0 : 1 ≤ k) (hk : k ≤ m) W => (show Calls Try.prog 29 #[.int .i64 H, .int .u64 (M.p2 k)] W fun e w' => e = .returned (.tuple #[.int .u64 (M.p2 k + 1), .int .i64 (M.othE H (M.p2 k))]) ∧ w' = W by
    have := other_any H (M.p2 k) W (by have := M.p2_pos (k : Int); omega) (by have := (HPk.out k hk).2; omega)
    rwa [← hH, M.oth_pw hk0 hk hm32, hH] at this))
  have HL := hidq (fun t (ht : t ≤ m) => M.eA_le H t (by omega))
  have HLc := hidq (fun t f => M.e1_le H t f)
  have HA := hidq (fun t => show M.eA H (t + 1) = M.eA H t + M.e1 H (t + 1) (t + 1) from rfl)
  have HC := hidq (fun t f => show M.e1 H t (f + 1) = M.e1 H t f + (if M.useV H (M.p2 f) (M.p2 (t : Nat) + 1) = true then 1 else 0) from rfl)
  have UU := hidq (fun (t f : Nat) W h0 h1 h2 h3 => useful_any H (M.p2 f) (M.p2 (t : Nat) + 1) W h0 h1 h2 h3)
  have HHm := hidq hH.symm
  rw [hH]
  clear hn hlE hlV hn0 hp hp32 hH
  go_enter Try.func14, Try.ntmps14
  go_wp2_with (first | (go_at_call 19; refine (HLF.out _).mono ?_; rintro e w' ⟨rfl, hw⟩; subst w'))
  go_loopw [7, 6] (fun a b wr => ∃ t : Nat, t ≤ m ∧ a = .int .i64 ((t : Int) + 1) ∧ b = .int .i64 ((M.eA H t : Nat) : Int) ∧ Below w.heap.size w wr) (fun a _ _ => m + 1 - (intOf a).toNat)
  case atStart => exact ⟨0, by omega, rfl, rfl, Below.refl _ _⟩
  case round =>
    obtain ⟨t, ht, rfl, rfl, hb⟩ := hrel
    have BX := hidq hb
    by_cases htn : t < m
    · have hii : (t : Int) + 1 ≤ H := by have := HHm.out; omega
      have hwi : IntKind.i64.wrap ((t : Int) + 1 + 1) = (t : Int) + 1 + 1 := by rw [IntKind.wrap_i64]; omega
      have HU1 := hidq (HUk.out (t + 1) (by omega))
      have HOT := hidq (HOk.out (t + 1) (by omega) (by omega))
      obtain ⟨p3, p4⟩ := HPk.out (t + 1) (by omega)
      have HPk1 := hidq (fun f (hf : f < t + 1) => HPk.out f (by omega))
      have HUf := hidq (fun f (hf : f < t + 1) => HUk.out f (by omega))
      have hat := HL.out t (by omega)
      have HCt := hidq (HC.out (t + 1))
      have UUt := hidq (UU.out (t + 1))
      have HAt := hidq (HA.out t)
      obtain ⟨P2, hP2⟩ : ∃ P2, M.p2 ((t + 1 : Nat) : Int) = P2 := ⟨_, rfl⟩
      rw [hP2] at HU1 HOT HCt UUt p3 p4
      clear hP2
      rw [show ((t + 1 : Nat) : Int) = (t : Int) + 1 by omega] at HU1
      obtain ⟨UE1, hUE1⟩ : ∃ x, M.upE H n ((t : Int) + 1) = x := ⟨_, rfl⟩
      obtain ⟨OE1, hOE1⟩ : ∃ x, M.othE H P2 = x := ⟨_, rfl⟩
      rw [hUE1] at HU1
      rw [hOE1] at HOT
      clear hUE1 hOE1 hb
      go_wp2_with (first | (go_at_call 28; refine (HU1.out _).mono ?_; rintro e w' ⟨rfl, hw⟩; subst w') | (go_at_call 29; refine (HOT.out _).mono ?_; rintro e w' ⟨rfl, hw⟩; subst w'))
      go_loopw [44, 6] (fun a b wr => ∃ f : Nat, f ≤ t + 1 ∧ a = .int .i64 f ∧ b = .int .i64 ((M.eA H t + M.e1 H (t + 1) f : Nat) : Int) ∧ Below w.heap.size w wr) (fun a _ _ => t + 1 - (intOf a).toNat)
      case atStart => exact ⟨0, by omega, rfl, rfl, BX.out⟩
      case round =>
        obtain ⟨f, hf, rfl, rfl, hbq⟩ := hrel
        have HBQ := hidq hbq
        by_cases hfn : f < t + 1
        · have hqi : (f : Int) < (t : Int) + 1 := by omega
          obtain ⟨p1, p2⟩ := HPk1.out f hfn
          have HU2 := hidq (HUf.out f hfn)
          have UC := hidq (fun W => UUt.out f W (by omega) (by omega) (by omega) (by omega))
          have hc1 := HCt.out f
          have hl1 := HLc.out (t + 1) f
          generalize M.subE H (M.p2 f) (P2 + 1) = sE at *
          obtain ⟨r, hr⟩ : ∃ r, M.useV H (M.p2 f) (P2 + 1) = r := ⟨_, rfl⟩
          rw [hr] at UC hc1
          clear hr
          generalize M.p2 f = P1 at *
          generalize M.upE H n f = UE2 at *
          generalize M.e1 H (t + 1) f = A0 at *
          obtain ⟨A1, hA1⟩ : ∃ A1, M.e1 H (t + 1) (f + 1) = A1 := ⟨_, rfl⟩
          rw [hA1] at hc1
          have HA1 := hidq hA1
          clear hA1
          generalize M.eA H t = B0 at *
          have hw2 : IntKind.i64.wrap (((B0 + A0 : Nat) : Int) + 1) = ((B0 + A0 : Nat) : Int) + 1 := by rw [IntKind.wrap_i64]; omega
          have hw3 : IntKind.i64.wrap ((B0 : Int) + A0 + 1) = (B0 : Int) + A0 + 1 := by rw [IntKind.wrap_i64]; omega
          cases r with
          | true =>
            have HH1 := hidq (show A1 = A0 + 1 by simpa using hc1)
            clear hbq hc1
            go_wp2_with (first | (go_at_call 28; refine (HU2.out _).mono ?_; rintro e w' ⟨rfl, hw⟩; subst w') | (go_at_call 30; refine (UC.out _).mono ?_; rintro e w5 ⟨rfl, hb5⟩; have B5 := hidq (below_trans HBQ.out hb5); clear hb5))
            go_roundw
            case rel => exact ⟨f + 1, by omega, by go_num, by rw [HA1.out, HH1.out]; go_num, B5.out⟩
            case measure => simp [intOf]; omega
          | false =>
            have HH1 := hidq (show A1 = A0 by simpa using hc1)
            clear hbq hc1
            go_wp2_with (first | (go_at_call 28; refine (HU2.out _).mono ?_; rintro e w' ⟨rfl, hw⟩; subst w') | (go_at_call 30; refine (UC.out _).mono ?_; rintro e w5 ⟨rfl, hb5⟩; have B5 := hidq (below_trans HBQ.out hb5); clear hb5))
            go_roundw
            case rel => exact ⟨f + 1, by omega, by go_num, by rw [HA1.out, HH1.out]; go_num, B5.out⟩
            case measure => simp [intOf]; omega
        · obtain rfl : f = t + 1 := by omega
          have hqi : ¬ ((t + 1 : Nat) : Int) < (t : Int) + 1 := by omega
          have hqi2 : ¬ ((t : Int) + 1 < (t : Int) + 1) := by omega
          clear hbq
          go_wp2
          go_roundw
          case rel => exact ⟨t + 1, by omega, by go_num, by rw [HAt.out]; (try go_num), HBQ.out⟩
          case measure => simp [intOf]; omega
    · obtain rfl : t = m := by omega
      have hii : ¬ (t : Int) + 1 ≤ H := by have := HHm.out; omega
      clear hb
      go_wp2
      go_ret2
      exact ⟨rfl, BX.out⟩
set_option maxRecDepth 100000 in
theorem lpairs_any (h : Int) (w : World) :
    Calls Try.prog 14 #[.int .i64 h] w fun e w' => e = .returned (.tuple #[.int .i64 (M.prV h), .int .i64 (M.prE h)]) ∧ Below w.heap.size w w' := by
  unfold M.prV M.prE
  cases hh : M.htB h with
  | false =>
    have hlE : M.leafE h 0 = 1 := by unfold M.leafE; rw [hh]; rfl
    have hlV : M.leafV h 0 = 0 := by unfold M.leafV; rw [hlE]; rfl
    go_enter Try.func14, Try.ntmps14
    go_wp2_with (go_at_call 19; refine (leaf_any h 0 _ (by omega) (by omega)).mono ?_; rw [hlE, hlV]; rintro e w' ⟨rfl, hw⟩; subst w')
    go_ret2
    exact ⟨rfl, Below.refl _ _⟩
  | true =>
    obtain ⟨s1, s2⟩ := M.ht_of hh
    obtain ⟨m, rfl⟩ : ∃ m : Nat, h = m := ⟨h.toNat, by omega⟩
    have := M.eA_eq (m := m) (by omega) (by omega)
    rw [if_pos rfl, if_pos rfl, show ((m : Int).toNat) = m by omega, ← this]
    exact lpairs_yes m w (by omega) (by omega)
end Go.Proofs.Ythmiekinjfaflaa
