/-
  What the document's own follows comes to. Conditions: each theorem's own premises.
-/
import Derived.Test.YthkkclhjpgkhaaaV1
import Derived.Test.YthkkclhjpgkhaaaNL
namespace Go.Proofs.Ythkkclhjpgkhaaa
open Go.RowKit
theorem M.fol_split {A : List M.Tm} {S : List Int} {p : Nat} {t : M.Tm} (ht : M.at_ A p = t) : M.Fol A (· ∈ S) p ↔ (((t.1 = 2 ∨ t.1 = 3 ∨ t.1 = 4) ∧ t.2.1 ∈ S) ∨ (t.1 = 5 ∧ t.2.1 ∈ S ∧ t.2.2 ∈ S) ∨ ∃ k, k ∈ S ∧ (M.at_ A k.toNat).1 = 5 ∧ (M.at_ A k.toNat).2.2 = p ∧ (M.at_ A k.toNat).2.1 ∈ S) := by
  subst ht
  exact Iff.rfl
theorem fol_nx {A : List M.Tm} {S : List Int} {p k q : Nat} (h : ∀ j, j < k → ∀ y, S[j]? = some y → ¬ ((M.at_ A y.toNat).1 = 5 ∧ (M.at_ A y.toNat).2.2 = p ∧ (M.at_ A y.toNat).2.1 ∈ S)) (hq : S[k]? = some (q : Int)) (hno : ¬ ((M.at_ A q).1 = 5 ∧ (M.at_ A q).2.2 = p ∧ (M.at_ A q).2.1 ∈ S)) :
    ∀ j, j < k + 1 → ∀ y, S[j]? = some y → ¬ ((M.at_ A y.toNat).1 = 5 ∧ (M.at_ A y.toNat).2.2 = p ∧ (M.at_ A y.toNat).2.1 ∈ S) := fun j hj y hy => by
  rcases Nat.lt_or_ge j k with h1 | h1
  · exact h j h1 y hy
  · obtain rfl : j = k := by omega
    rw [hq] at hy
    have e : y.toNat = q := by have := Option.some.inj hy; omega
    rw [e]
    exact hno
set_option maxRecDepth 100000 in
set_option maxHeartbeats 8000000 in
theorem rfollows_any (A : List M.Tm) (hA : M.Ok A) (n : Nat) (S : List Int) (p : Nat) (r : Bool) (v1 v2 : Value) (w : World) (u1 : Ts w v1 A) (u2 : Is w v2 S) (hn : A.length = n) (hS : ∀ x ∈ S, 0 ≤ x ∧ x < (n : Int)) (hp : p < n) (hr : r = true ↔ M.Fol A (· ∈ S) p) :
    Calls Try.prog 35 #[v1, v2, .int .i64 p] w fun e w' => e = .returned (.bool r) ∧ Below w.heap.size w w' := by
  have hl := hA.1
  rw [hn] at hl
  obtain ⟨a1, c1, rfl, hp1, hp2, hp4⟩ := u1.form
  obtain ⟨a2, c2, rfl, hq1, hq2, hq4⟩ := u2.form
  have hm : S.length ≤ maxLen := by omega
  unfold maxLen at hm
  obtain ⟨bt, ot, rfl⟩ := hp4 (by omega)
  obtain ⟨x1, x2, x3⟩ := Ts.cell u1 (k := p) (by omega)
  have hmay := (hA.2 p (by omega)).1
  have HTC := hidq (fun (q : Nat) (hq : q < n) => Ts.cell u1 (k := q) (by omega))
  have U2 := hidq u2
  have HQ4 := hidq hq4
  have HS := hidq hS
  obtain ⟨⟨tk, ta, tb⟩, ht⟩ : ∃ t, M.at_ A p = t := ⟨_, rfl⟩
  have HR0 := hidq (hr.trans (M.fol_split ht))
  rw [ht] at x1 x2 x3 hmay
  dsimp only at x1 x2 x3 HR0
  rw [hn] at hp1 ⊢
  have hpi : (p : Int) < n := by omega
  clear hp4 hq4 u1 u2 hS hr ht hA
  generalize hml : S.length = m at *
  have HM := hidq hml
  clear hml
  have T1 := hidq trivial
  have T2 := hidq trivial
  rcases M.may_kind hmay with ⟨k1, k2, k3, k4⟩ | ⟨k1, k2, k3, k4⟩ | ⟨k1, k2, k3, k4, k5⟩
  · dsimp only at k1 k4
    subst k1
    subst k4
    have HR := hidq (HR0.out.trans (show _ ↔ ∃ k, k ∈ S ∧ (M.at_ A k.toNat).1 = 5 ∧ (M.at_ A k.toNat).2.2 = p ∧ (M.at_ A k.toNat).2.1 ∈ S by simp))
    clear hmay HR0
    go_enter Try.func35, Try.ntmps35
    go_wp2_with (first | (fail))
    go_loop [47] (fun x => ∃ k : Nat, k ≤ m ∧ x = .int .i64 k ∧ ∀ j, j < k → ∀ y, S[j]? = some y → ¬ ((M.at_ A y.toNat).1 = 5 ∧ (M.at_ A y.toNat).2.2 = p ∧ (M.at_ A y.toNat).2.1 ∈ S)) (fun x => m - (intOf x).toNat)
    case atStart => exact ⟨0, by omega, rfl, fun j hj => by omega⟩
    case round =>
      obtain ⟨k, hk, rfl, hall⟩ := hrel
      have HAL := hidq hall
      clear hall
      by_cases hlt : k < m
      · obtain ⟨b1, o1, rfl⟩ := HQ4.out (by omega)
        obtain ⟨y, hy⟩ : ∃ y, S[k]? = some y := ⟨_, List.getElem?_eq_getElem (by rw [HM.out]; exact hlt)⟩
        have cy := Is.cellq (U2.out.alloc (.cells #[.int .i64 1, .int .i64 ta, .int .i64 0] 41)) hy
        have hyb := HS.out y (List.mem_of_getElem? hy)
        obtain ⟨q, rfl⟩ : ∃ q : Nat, y = q := ⟨y.toNat, by omega⟩
        have hqn : q < n := by omega
        have hqi : (q : Int) < n := by omega
        obtain ⟨z1, z2, z3⟩ := HTC.out q hqn
        have bl : bt < w.heap.size := World.block_lt_of_cell? w _ z1
        have HY := hidq hy
        have HNX := hidq (fol_nx HAL.out HY.out)
        have HYES := hidq (fun (h : (M.at_ A q).1 = 5 ∧ (M.at_ A q).2.2 = p ∧ (M.at_ A q).2.1 ∈ S) => HR.out.2 ⟨q, List.mem_of_getElem? HY.out, h⟩)
        obtain ⟨⟨qk, qa, qb⟩, hq⟩ : ∃ t, M.at_ A q = t := ⟨_, rfl⟩
        rw [hq] at z1 z2 z3 HNX HYES
        dsimp only at z1 z2 z3 HNX HYES
        clear hy hyb hq
        by_cases e5 : qk = 5
        · subst e5
          by_cases eb : qb = p
          · subst eb
            by_cases ea : qa ∈ S
            · have h3 := decide_eq_true ea
              obtain rfl : r = true := HYES.out ⟨rfl, rfl, ea⟩
              clear ea
              go_wp2_with (first | (go_at_call 31; refine (rin_eq h3 _ (U2.out.alloc _)).mono ?_; rintro rr w5 ⟨rfl, hw5⟩; subst w5))
              go_ret
              exact ⟨rfl, below_one (Below.refl _ _)⟩
            · have h3 := decide_eq_false ea
              have HN2 := hidq (HNX.out fun h => ea h.2.2)
              clear ea
              go_wp2_with (first | (go_at_call 31; refine (rin_eq h3 _ (U2.out.alloc _)).mono ?_; rintro rr w5 ⟨rfl, hw5⟩; subst w5))
              go_round
              case rel => exact ⟨k + 1, by omega, by go_num, HN2.out⟩
              case measure => simp [intOf]; omega
          · have HN2 := hidq (HNX.out fun h => eb h.2.1)
            have eb2 : (qb == (p : Int)) = false := beq_eq_false_iff_ne.2 eb
            go_wp2
            go_round
            case rel => exact ⟨k + 1, by omega, by go_num, HN2.out⟩
            case measure => simp [intOf]; omega
        · have HN2 := hidq (HNX.out fun h => e5 h.1)
          have e52 : (qk == 5) = false := beq_eq_false_iff_ne.2 e5
          go_wp2
          go_round
          case rel => exact ⟨k + 1, by omega, by go_num, HN2.out⟩
          case measure => simp [intOf]; omega
      · obtain rfl : r = false := by
          cases r with
          | false => rfl
          | true =>
            obtain ⟨y, hy, h⟩ := HR.out.1 rfl
            obtain ⟨j, hj, e⟩ := List.getElem_of_mem hy
            exact absurd h (HAL.out j (by rw [HM.out] at hj; omega) y (by rw [List.getElem?_eq_getElem hj, e]))
        go_wp2
        go_ret
        exact ⟨rfl, below_one (Below.refl _ _)⟩
  · dsimp only at k1 k2 k3 k4
    subst k4
    have t5 : (tk == 5) = false := beq_eq_false_iff_ne.2 (by omega)
    have t6 : ¬ tk = 5 := by omega
    have t2 : 2 ≤ tk := by omega
    have t4 : tk ≤ 4 := by omega
    by_cases ea : ta ∈ S
    · have h1 := decide_eq_true ea
      obtain rfl : r = true := HR0.out.2 (.inl ⟨k1, ea⟩)
      clear hmay HR0 k1 ea
      go_enter Try.func35, Try.ntmps35
      go_wp2_with (first | (go_at_call 31; clear T1; refine (rin_eq h1 _ (U2.out.alloc _)).mono ?_; rintro rr w5 ⟨rfl, hw5⟩; subst w5))
      go_ret
      exact ⟨rfl, below_one (Below.refl _ _)⟩
    · have h1 := decide_eq_false ea
      have HR := hidq (HR0.out.trans (show _ ↔ ∃ k, k ∈ S ∧ (M.at_ A k.toNat).1 = 5 ∧ (M.at_ A k.toNat).2.2 = p ∧ (M.at_ A k.toNat).2.1 ∈ S by simp [ea, t6]))
      clear hmay HR0 k1 ea
      go_enter Try.func35, Try.ntmps35
      go_wp2_with (first | (go_at_call 31; clear T1; refine (rin_eq h1 _ (U2.out.alloc _)).mono ?_; rintro rr w5 ⟨rfl, hw5⟩; subst w5))
      go_loop [47] (fun x => ∃ k : Nat, k ≤ m ∧ x = .int .i64 k ∧ ∀ j, j < k → ∀ y, S[j]? = some y → ¬ ((M.at_ A y.toNat).1 = 5 ∧ (M.at_ A y.toNat).2.2 = p ∧ (M.at_ A y.toNat).2.1 ∈ S)) (fun x => m - (intOf x).toNat)
      case atStart => exact ⟨0, by omega, rfl, fun j hj => by omega⟩
      case round =>
        obtain ⟨k, hk, rfl, hall⟩ := hrel
        have HAL := hidq hall
        clear hall
        by_cases hlt : k < m
        · obtain ⟨b1, o1, rfl⟩ := HQ4.out (by omega)
          obtain ⟨y, hy⟩ : ∃ y, S[k]? = some y := ⟨_, List.getElem?_eq_getElem (by rw [HM.out]; exact hlt)⟩
          have cy := Is.cellq (U2.out.alloc (.cells #[.int .i64 tk, .int .i64 ta, .int .i64 0] 41)) hy
          have hyb := HS.out y (List.mem_of_getElem? hy)
          obtain ⟨q, rfl⟩ : ∃ q : Nat, y = q := ⟨y.toNat, by omega⟩
          have hqn : q < n := by omega
          have hqi : (q : Int) < n := by omega
          obtain ⟨z1, z2, z3⟩ := HTC.out q hqn
          have bl : bt < w.heap.size := World.block_lt_of_cell? w _ z1
          have HY := hidq hy
          have HNX := hidq (fol_nx HAL.out HY.out)
          have HYES := hidq (fun (h : (M.at_ A q).1 = 5 ∧ (M.at_ A q).2.2 = p ∧ (M.at_ A q).2.1 ∈ S) => HR.out.2 ⟨q, List.mem_of_getElem? HY.out, h⟩)
          obtain ⟨⟨qk, qa, qb⟩, hq⟩ : ∃ t, M.at_ A q = t := ⟨_, rfl⟩
          rw [hq] at z1 z2 z3 HNX HYES
          dsimp only at z1 z2 z3 HNX HYES
          clear hy hyb hq
          by_cases e5 : qk = 5
          · subst e5
            by_cases eb : qb = p
            · subst eb
              by_cases ea : qa ∈ S
              · have h3 := decide_eq_true ea
                obtain rfl : r = true := HYES.out ⟨rfl, rfl, ea⟩
                clear ea
                go_wp2_with (first | (go_at_call 31; refine (rin_eq h3 _ (U2.out.alloc _)).mono ?_; rintro rr w5 ⟨rfl, hw5⟩; subst w5))
                go_ret
                exact ⟨rfl, below_one (Below.refl _ _)⟩
              · have h3 := decide_eq_false ea
                have HN2 := hidq (HNX.out fun h => ea h.2.2)
                clear ea
                go_wp2_with (first | (go_at_call 31; refine (rin_eq h3 _ (U2.out.alloc _)).mono ?_; rintro rr w5 ⟨rfl, hw5⟩; subst w5))
                go_round
                case rel => exact ⟨k + 1, by omega, by go_num, HN2.out⟩
                case measure => simp [intOf]; omega
            · have HN2 := hidq (HNX.out fun h => eb h.2.1)
              have eb2 : (qb == (p : Int)) = false := beq_eq_false_iff_ne.2 eb
              go_wp2
              go_round
              case rel => exact ⟨k + 1, by omega, by go_num, HN2.out⟩
              case measure => simp [intOf]; omega
          · have HN2 := hidq (HNX.out fun h => e5 h.1)
            have e52 : (qk == 5) = false := beq_eq_false_iff_ne.2 e5
            go_wp2
            go_round
            case rel => exact ⟨k + 1, by omega, by go_num, HN2.out⟩
            case measure => simp [intOf]; omega
        · obtain rfl : r = false := by
            cases r with
            | false => rfl
            | true =>
              obtain ⟨y, hy, h⟩ := HR.out.1 rfl
              obtain ⟨j, hj, e⟩ := List.getElem_of_mem hy
              exact absurd h (HAL.out j (by rw [HM.out] at hj; omega) y (by rw [List.getElem?_eq_getElem hj, e]))
          go_wp2
          go_ret
          exact ⟨rfl, below_one (Below.refl _ _)⟩
  · dsimp only at k1 k2 k3 k4 k5
    subst k1
    by_cases ea : ta ∈ S
    · have h1 := decide_eq_true ea
      by_cases eb : tb ∈ S
      · have h2 := decide_eq_true eb
        obtain rfl : r = true := HR0.out.2 (.inr (.inl ⟨rfl, ea, eb⟩))
        clear hmay HR0 ea eb
        go_enter Try.func35, Try.ntmps35
        go_wp2_with (first | (go_at_call 31; clear T1; refine (rin_eq h1 _ (U2.out.alloc _)).mono ?_; rintro rr w5 ⟨rfl, hw5⟩; subst w5) | (go_at_call 31; clear T2; refine (rin_eq h2 _ (U2.out.alloc _)).mono ?_; rintro rr w5 ⟨rfl, hw5⟩; subst w5))
        go_ret
        exact ⟨rfl, below_one (Below.refl _ _)⟩
      · have h2 := decide_eq_false eb
        have HR := hidq (HR0.out.trans (show _ ↔ ∃ k, k ∈ S ∧ (M.at_ A k.toNat).1 = 5 ∧ (M.at_ A k.toNat).2.2 = p ∧ (M.at_ A k.toNat).2.1 ∈ S by simp [eb]))
        clear hmay HR0 ea eb
        go_enter Try.func35, Try.ntmps35
        go_wp2_with (first | (go_at_call 31; clear T1; refine (rin_eq h1 _ (U2.out.alloc _)).mono ?_; rintro rr w5 ⟨rfl, hw5⟩; subst w5) | (go_at_call 31; clear T2; refine (rin_eq h2 _ (U2.out.alloc _)).mono ?_; rintro rr w5 ⟨rfl, hw5⟩; subst w5))
        go_loop [47] (fun x => ∃ k : Nat, k ≤ m ∧ x = .int .i64 k ∧ ∀ j, j < k → ∀ y, S[j]? = some y → ¬ ((M.at_ A y.toNat).1 = 5 ∧ (M.at_ A y.toNat).2.2 = p ∧ (M.at_ A y.toNat).2.1 ∈ S)) (fun x => m - (intOf x).toNat)
        case atStart => exact ⟨0, by omega, rfl, fun j hj => by omega⟩
        case round =>
          obtain ⟨k, hk, rfl, hall⟩ := hrel
          have HAL := hidq hall
          clear hall
          by_cases hlt : k < m
          · obtain ⟨b1, o1, rfl⟩ := HQ4.out (by omega)
            obtain ⟨y, hy⟩ : ∃ y, S[k]? = some y := ⟨_, List.getElem?_eq_getElem (by rw [HM.out]; exact hlt)⟩
            have cy := Is.cellq (U2.out.alloc (.cells #[.int .i64 5, .int .i64 ta, .int .i64 tb] 41)) hy
            have hyb := HS.out y (List.mem_of_getElem? hy)
            obtain ⟨q, rfl⟩ : ∃ q : Nat, y = q := ⟨y.toNat, by omega⟩
            have hqn : q < n := by omega
            have hqi : (q : Int) < n := by omega
            obtain ⟨z1, z2, z3⟩ := HTC.out q hqn
            have bl : bt < w.heap.size := World.block_lt_of_cell? w _ z1
            have HY := hidq hy
            have HNX := hidq (fol_nx HAL.out HY.out)
            have HYES := hidq (fun (h : (M.at_ A q).1 = 5 ∧ (M.at_ A q).2.2 = p ∧ (M.at_ A q).2.1 ∈ S) => HR.out.2 ⟨q, List.mem_of_getElem? HY.out, h⟩)
            obtain ⟨⟨qk, qa, qb⟩, hq⟩ : ∃ t, M.at_ A q = t := ⟨_, rfl⟩
            rw [hq] at z1 z2 z3 HNX HYES
            dsimp only at z1 z2 z3 HNX HYES
            clear hy hyb hq
            by_cases e5 : qk = 5
            · subst e5
              by_cases eb : qb = p
              · subst eb
                by_cases ea : qa ∈ S
                · have h3 := decide_eq_true ea
                  obtain rfl : r = true := HYES.out ⟨rfl, rfl, ea⟩
                  clear ea
                  go_wp2_with (first | (go_at_call 31; refine (rin_eq h3 _ (U2.out.alloc _)).mono ?_; rintro rr w5 ⟨rfl, hw5⟩; subst w5))
                  go_ret
                  exact ⟨rfl, below_one (Below.refl _ _)⟩
                · have h3 := decide_eq_false ea
                  have HN2 := hidq (HNX.out fun h => ea h.2.2)
                  clear ea
                  go_wp2_with (first | (go_at_call 31; refine (rin_eq h3 _ (U2.out.alloc _)).mono ?_; rintro rr w5 ⟨rfl, hw5⟩; subst w5))
                  go_round
                  case rel => exact ⟨k + 1, by omega, by go_num, HN2.out⟩
                  case measure => simp [intOf]; omega
              · have HN2 := hidq (HNX.out fun h => eb h.2.1)
                have eb2 : (qb == (p : Int)) = false := beq_eq_false_iff_ne.2 eb
                go_wp2
                go_round
                case rel => exact ⟨k + 1, by omega, by go_num, HN2.out⟩
                case measure => simp [intOf]; omega
            · have HN2 := hidq (HNX.out fun h => e5 h.1)
              have e52 : (qk == 5) = false := beq_eq_false_iff_ne.2 e5
              go_wp2
              go_round
              case rel => exact ⟨k + 1, by omega, by go_num, HN2.out⟩
              case measure => simp [intOf]; omega
          · obtain rfl : r = false := by
              cases r with
              | false => rfl
              | true =>
                obtain ⟨y, hy, h⟩ := HR.out.1 rfl
                obtain ⟨j, hj, e⟩ := List.getElem_of_mem hy
                exact absurd h (HAL.out j (by rw [HM.out] at hj; omega) y (by rw [List.getElem?_eq_getElem hj, e]))
            go_wp2
            go_ret
            exact ⟨rfl, below_one (Below.refl _ _)⟩
    · have h1 := decide_eq_false ea
      have HR := hidq (HR0.out.trans (show _ ↔ ∃ k, k ∈ S ∧ (M.at_ A k.toNat).1 = 5 ∧ (M.at_ A k.toNat).2.2 = p ∧ (M.at_ A k.toNat).2.1 ∈ S by simp [ea]))
      clear hmay HR0 ea
      go_enter Try.func35, Try.ntmps35
      go_wp2_with (first | (go_at_call 31; clear T1; refine (rin_eq h1 _ (U2.out.alloc _)).mono ?_; rintro rr w5 ⟨rfl, hw5⟩; subst w5))
      go_loop [47] (fun x => ∃ k : Nat, k ≤ m ∧ x = .int .i64 k ∧ ∀ j, j < k → ∀ y, S[j]? = some y → ¬ ((M.at_ A y.toNat).1 = 5 ∧ (M.at_ A y.toNat).2.2 = p ∧ (M.at_ A y.toNat).2.1 ∈ S)) (fun x => m - (intOf x).toNat)
      case atStart => exact ⟨0, by omega, rfl, fun j hj => by omega⟩
      case round =>
        obtain ⟨k, hk, rfl, hall⟩ := hrel
        have HAL := hidq hall
        clear hall
        by_cases hlt : k < m
        · obtain ⟨b1, o1, rfl⟩ := HQ4.out (by omega)
          obtain ⟨y, hy⟩ : ∃ y, S[k]? = some y := ⟨_, List.getElem?_eq_getElem (by rw [HM.out]; exact hlt)⟩
          have cy := Is.cellq (U2.out.alloc (.cells #[.int .i64 5, .int .i64 ta, .int .i64 tb] 41)) hy
          have hyb := HS.out y (List.mem_of_getElem? hy)
          obtain ⟨q, rfl⟩ : ∃ q : Nat, y = q := ⟨y.toNat, by omega⟩
          have hqn : q < n := by omega
          have hqi : (q : Int) < n := by omega
          obtain ⟨z1, z2, z3⟩ := HTC.out q hqn
          have bl : bt < w.heap.size := World.block_lt_of_cell? w _ z1
          have HY := hidq hy
          have HNX := hidq (fol_nx HAL.out HY.out)
          have HYES := hidq (fun (h : (M.at_ A q).1 = 5 ∧ (M.at_ A q).2.2 = p ∧ (M.at_ A q).2.1 ∈ S) => HR.out.2 ⟨q, List.mem_of_getElem? HY.out, h⟩)
          obtain ⟨⟨qk, qa, qb⟩, hq⟩ : ∃ t, M.at_ A q = t := ⟨_, rfl⟩
          rw [hq] at z1 z2 z3 HNX HYES
          dsimp only at z1 z2 z3 HNX HYES
          clear hy hyb hq
          by_cases e5 : qk = 5
          · subst e5
            by_cases eb : qb = p
            · subst eb
              by_cases ea : qa ∈ S
              · have h3 := decide_eq_true ea
                obtain rfl : r = true := HYES.out ⟨rfl, rfl, ea⟩
                clear ea
                go_wp2_with (first | (go_at_call 31; refine (rin_eq h3 _ (U2.out.alloc _)).mono ?_; rintro rr w5 ⟨rfl, hw5⟩; subst w5))
                go_ret
                exact ⟨rfl, below_one (Below.refl _ _)⟩
              · have h3 := decide_eq_false ea
                have HN2 := hidq (HNX.out fun h => ea h.2.2)
                clear ea
                go_wp2_with (first | (go_at_call 31; refine (rin_eq h3 _ (U2.out.alloc _)).mono ?_; rintro rr w5 ⟨rfl, hw5⟩; subst w5))
                go_round
                case rel => exact ⟨k + 1, by omega, by go_num, HN2.out⟩
                case measure => simp [intOf]; omega
            · have HN2 := hidq (HNX.out fun h => eb h.2.1)
              have eb2 : (qb == (p : Int)) = false := beq_eq_false_iff_ne.2 eb
              go_wp2
              go_round
              case rel => exact ⟨k + 1, by omega, by go_num, HN2.out⟩
              case measure => simp [intOf]; omega
          · have HN2 := hidq (HNX.out fun h => e5 h.1)
            have e52 : (qk == 5) = false := beq_eq_false_iff_ne.2 e5
            go_wp2
            go_round
            case rel => exact ⟨k + 1, by omega, by go_num, HN2.out⟩
            case measure => simp [intOf]; omega
        · obtain rfl : r = false := by
            cases r with
            | false => rfl
            | true =>
              obtain ⟨y, hy, h⟩ := HR.out.1 rfl
              obtain ⟨j, hj, e⟩ := List.getElem_of_mem hy
              exact absurd h (HAL.out j (by rw [HM.out] at hj; omega) y (by rw [List.getElem?_eq_getElem hj, e]))
          go_wp2
          go_ret
          exact ⟨rfl, below_one (Below.refl _ _)⟩
end Go.Proofs.Ythkkclhjpgkhaaa
