/-
  Entries (a subset, and a value) as elements of slices; '==' of them; what the document's Same of layer 14 answers. Conditions: each theorem's own premises.
-/
import Derived.Test.YthmiekinjfaflaaGreatZM3
import Derived.Test.YthmiekinjfaflaaGreatZNX
import Derived.Test.YthmiekinjfaflaaGreatZNZ
import Derived.Test.YthmiekinjfaflaaGreatZSt2
import Derived.Test.YthmiekinjfaflaaGreatZTR
namespace Go.Proofs.YthmiekinjfaflaaGreat
open Go.RowKit
abbrev M.En : Type := (Int × Int) × M.Val
def M.zE : M.En := ((0, 0), M.zV)
def elEnt : Elt Tryz.prog M.En where
  st := 30
  et := 57
  enc := fun x => [.int .u64 x.1.1, .int .u64 x.1.2, .bool x.2.1, .bool x.2.2.1, .int .u64 (M.nu x.2.2.2.1.1), .int .u64 (M.nu x.2.2.2.1.2), .int .u64 (M.nu x.2.2.2.2.1.1.1), .int .u64 (M.nu x.2.2.2.2.1.1.2), .int .u64 (M.nu x.2.2.2.2.1.2.1), .int .u64 (M.nu x.2.2.2.2.1.2.2), .int .i64 x.2.2.2.2.2]
  size := 11
  bytes := 80
  zero := .agg #[.int .u64 0, .int .u64 0, .bool false, .bool false, .int .u64 0, .int .u64 0, .int .u64 0, .int .u64 0, .int .u64 0, .int .u64 0, .int .i64 0]
  ok := fun x => 0 ≤ x.1.1 ∧ x.1.1 ≤ 18446744073709551615 ∧ 0 ≤ x.1.2 ∧ x.1.2 ≤ 18446744073709551615
  pos := by decide
  small := by decide
  len := fun _ => rfl
  one := by intro x u hu; simp at hu; rcases hu with rfl | rfl | rfl | rfl | rfl | rfl | rfl | rfl | rfl | rfl | rfl <;> rfl
  ht := Tryz.underlying30
  info := by kernel_rfl
  zs := rfl
/-- the slice value v holds the entries L -/
abbrev Es (W : World) (v : Value) (L : List M.En) : Prop := Sl elEnt W v L
theorem Es.cell {W : World} {b off n cap : Nat} {L : List M.En} (h : Es W (.slice (some ⟨b, off, none⟩) n cap) L) {k : Nat} {x : M.En} (hk : L[k]? = some x) :
    W.cell? ⟨b, off + k * 11, none⟩ = some (.int .u64 x.1.1) ∧ W.cell? ⟨b, off + k * 11 + 1, none⟩ = some (.int .u64 x.1.2) ∧ W.cell? ⟨b, off + k * 11 + 2, none⟩ = some (.bool x.2.1) ∧ W.cell? ⟨b, off + k * 11 + 3, none⟩ = some (.bool x.2.2.1) ∧ W.cell? ⟨b, off + k * 11 + 4, none⟩ = some (.int .u64 (M.nu x.2.2.2.1.1)) ∧ W.cell? ⟨b, off + k * 11 + 5, none⟩ = some (.int .u64 (M.nu x.2.2.2.1.2)) ∧ W.cell? ⟨b, off + k * 11 + 6, none⟩ = some (.int .u64 (M.nu x.2.2.2.2.1.1.1)) ∧ W.cell? ⟨b, off + k * 11 + 7, none⟩ = some (.int .u64 (M.nu x.2.2.2.2.1.1.2)) ∧ W.cell? ⟨b, off + k * 11 + 8, none⟩ = some (.int .u64 (M.nu x.2.2.2.2.1.2.1)) ∧ W.cell? ⟨b, off + k * 11 + 9, none⟩ = some (.int .u64 (M.nu x.2.2.2.2.1.2.2)) ∧ W.cell? ⟨b, off + k * 11 + 10, none⟩ = some (.int .i64 x.2.2.2.2.2) :=
  ⟨Sl.at h hk (i := 0) (by decide), Sl.at h hk (i := 1) (by decide), Sl.at h hk (i := 2) (by decide), Sl.at h hk (i := 3) (by decide), Sl.at h hk (i := 4) (by decide), Sl.at h hk (i := 5) (by decide), Sl.at h hk (i := 6) (by decide), Sl.at h hk (i := 7) (by decide), Sl.at h hk (i := 8) (by decide), Sl.at h hk (i := 9) (by decide), Sl.at h hk (i := 10) (by decide)⟩
set_option maxRecDepth 100000 in
theorem Tryz.fieldsEn : (Tryz.prog.fieldsOf 57) = #[⟨"S", 46, 0, false, "", "", 0⟩, ⟨"V", 29, 2, false, "", "", 16⟩] := by kernel_rfl
set_option maxRecDepth 100000 in
theorem Tryz.heldEn : Tryz.prog.stoodInHeld 57 = false := by kernel_rfl
set_option maxRecDepth 100000 in
theorem Tryz.structEn : Tryz.prog.underlying 57 = some (.struct (Tryz.prog.fieldsOf 57)) := by kernel_rfl
set_option maxRecDepth 100000 in
theorem eqSubn (n : Nat) (a b x y : Int) (w : World) : (Op.equalIn (n + 2) 46 (.agg #[.int .u64 a, .int .u64 b]) (.agg #[.int .u64 x, .int .u64 y])).run Tryz.prog w = .ok (a == x && b == y) w := by
  rw [run_equalIn_struct w (n + 1) _ _ _ Tryz.structSub Tryz.heldSub, Tryz.fieldsSub]
  simp [Op.eqFields, part, go_sem]
  by_cases h1 : a = x <;> by_cases h2 : b = y <;> simp [h1, h2]
set_option maxRecDepth 100000 in
theorem eqVan (n : Nat) (a0 a1 b0 b1 : Bool) (a2 a3 a4 a5 a6 a7 a8 b2 b3 b4 b5 b6 b7 b8 : Int) (w : World) : (Op.equalIn (n + 7) 29 (.agg #[.bool a0, .bool a1, .int .u64 a2, .int .u64 a3, .int .u64 a4, .int .u64 a5, .int .u64 a6, .int .u64 a7, .int .i64 a8]) (.agg #[.bool b0, .bool b1, .int .u64 b2, .int .u64 b3, .int .u64 b4, .int .u64 b5, .int .u64 b6, .int .u64 b7, .int .i64 b8])).run Tryz.prog w = .ok (a0 == b0 && (a1 == b1 && ((a2 == b2 && a3 == b3) && (((a4 == b4 && a5 == b5) && (a6 == b6 && a7 == b7)) && a8 == b8)))) w := by
  rw [run_equalIn_struct w (n + 6) _ _ _ Tryz.structV Tryz.heldV, Tryz.fieldsV]
  simp [Op.eqFields, part, go_sem, eqBd (n + 4), eqSd n]
  by_cases h0 : a0 = b0 <;> simp [h0]
  by_cases h1 : a1 = b1 <;> simp [h1]
  by_cases h2 : a2 = b2 <;> simp [h2]
  by_cases h3 : a3 = b3 <;> simp [h3]
  by_cases h4 : a4 = b4 <;> simp [h4]
  by_cases h5 : a5 = b5 <;> simp [h5]
  by_cases h6 : a6 = b6 <;> simp [h6]
  by_cases h7 : a7 = b7 <;> simp [h7]
  by_cases h8 : a8 = b8 <;> simp [h8]
set_option maxRecDepth 100000 in
/-- '==' of two entries -/
theorem eqEnx (n : Nat) (p q r s : Int) (a0 a1 b0 b1 : Bool) (a2 a3 a4 a5 a6 a7 a8 b2 b3 b4 b5 b6 b7 b8 : Int) (w : World) : (Op.equalIn (n + 8) 57 (.agg #[.int .u64 p, .int .u64 q, .bool a0, .bool a1, .int .u64 a2, .int .u64 a3, .int .u64 a4, .int .u64 a5, .int .u64 a6, .int .u64 a7, .int .i64 a8]) (.agg #[.int .u64 r, .int .u64 s, .bool b0, .bool b1, .int .u64 b2, .int .u64 b3, .int .u64 b4, .int .u64 b5, .int .u64 b6, .int .u64 b7, .int .i64 b8])).run Tryz.prog w = .ok ((p == r && q == s) && (a0 == b0 && (a1 == b1 && ((a2 == b2 && a3 == b3) && (((a4 == b4 && a5 == b5) && (a6 == b6 && a7 == b7)) && a8 == b8))))) w := by
  rw [run_equalIn_struct w (n + 7) _ _ _ Tryz.structEn Tryz.heldEn, Tryz.fieldsEn]
  have key : ∀ Q : Bool, (if Q = false then Result.ok false w else Result.ok true w) = (Result.ok Q w : Result Bool) := by intro Q; cases Q <;> rfl
  simp [Op.eqFields, part, go_sem, eqSubn (n + 5), eqVan n]
  by_cases h1 : p = r <;> by_cases h2 : q = s <;> simp [h1, h2]
  exact key _
def M.eqB (x y : M.En) : Bool := decide (x.1 = y.1) && decide (x.2 = y.2)
theorem M.eqB_iff {x y : M.En} : M.eqB x y = true ↔ x = y := by
  unfold M.eqB
  rw [Bool.and_eq_true, decide_eq_true_iff, decide_eq_true_iff]
  exact ⟨fun ⟨h1, h2⟩ => Prod.ext h1 h2, fun h => by rw [h]; exact ⟨rfl, rfl⟩⟩
def M.eqLs : List M.En → List M.En → Bool
  | [], [] => true
  | x :: S, y :: T => M.eqB x y && M.eqLs S T
  | _, _ => false
theorem M.eqLs_iff : ∀ {S T : List M.En}, M.eqLs S T = true ↔ S = T
  | [], [] => by simp [M.eqLs]
  | [], y :: T => by simp [M.eqLs]
  | x :: S, [] => by simp [M.eqLs]
  | x :: S, y :: T => by rw [M.eqLs, Bool.and_eq_true, M.eqB_iff, M.eqLs_iff, List.cons.injEq]
set_option maxRecDepth 100000 in
theorem eqEn (x y : M.En) (w : World) : (Op.equalIn 10000 57 (.agg #[.int .u64 x.1.1, .int .u64 x.1.2, .bool x.2.1, .bool x.2.2.1, .int .u64 (M.nu x.2.2.2.1.1), .int .u64 (M.nu x.2.2.2.1.2), .int .u64 (M.nu x.2.2.2.2.1.1.1), .int .u64 (M.nu x.2.2.2.2.1.1.2), .int .u64 (M.nu x.2.2.2.2.1.2.1), .int .u64 (M.nu x.2.2.2.2.1.2.2), .int .i64 x.2.2.2.2.2]) (.agg #[.int .u64 y.1.1, .int .u64 y.1.2, .bool y.2.1, .bool y.2.2.1, .int .u64 (M.nu y.2.2.2.1.1), .int .u64 (M.nu y.2.2.2.1.2), .int .u64 (M.nu y.2.2.2.2.1.1.1), .int .u64 (M.nu y.2.2.2.2.1.1.2), .int .u64 (M.nu y.2.2.2.2.1.2.1), .int .u64 (M.nu y.2.2.2.2.1.2.2), .int .i64 y.2.2.2.2.2])).run Tryz.prog w = .ok (M.eqB x y) w := by
  rw [eqEnx 9992, val_beq]
  congr 1
  unfold M.eqB
  obtain ⟨⟨a, b⟩, v⟩ := x
  obtain ⟨⟨c, d⟩, u⟩ := y
  dsimp only
  congr 1
  rw [Bool.eq_iff_iff]
  simp
end Go.Proofs.YthmiekinjfaflaaGreat
namespace Go.Proofs.YthmiekinjfaflaaGreat
namespace M
abbrev AnsE : Type := List En × List Tm × Int
/-- of a pair its key, or its label -/
def stpA (A : List Tm) (h k : Int) (m : Val) (s : Int × Int) : Ans := if s.2 = 0 then keyA A h k m s.1 s.2 else labA A h m s.1 s.2
def mkR (h k : Int) (m : Val) : List (Int × Int) → List Tm → AnsE
  | [], A => ([], A, 0)
  | s :: S, A => if (stpA A h k m s).2.2 = 0 then (if (mkR h k m S (stpA A h k m s).2.1).2.2 = 0 then ((s, (stpA A h k m s).1) :: (mkR h k m S (stpA A h k m s).2.1).1, (mkR h k m S (stpA A h k m s).2.1).2.1, 0) else ([], [], (mkR h k m S (stpA A h k m s).2.1).2.2)) else ([], [], (stpA A h k m s).2.2)
def preE (E : List En) (r : AnsE) : AnsE := if r.2.2 = 0 then (E ++ r.1, r.2.1, 0) else ([], [], r.2.2)
def makA (A : List Tm) (h k : Int) (m : Val) (i : Int) : AnsE := if decide (prsE h k i = 0) && opn A m then mkR h k m (prsL h k i) A else ([], [], 1)
theorem mkR_nil {h k : Int} {m : Val} {A : List Tm} : mkR h k m [] A = ([], A, 0) := rfl
theorem mkR_step {h k : Int} {m : Val} {s : Int × Int} {S : List (Int × Int)} {A L : List Tm} {v : Val} (hs : stpA A h k m s = (v, L, 0)) : mkR h k m (s :: S) A = preE [(s, v)] (mkR h k m S L) := by
  rw [mkR, hs]; rfl
theorem mkR_stop {h k : Int} {m : Val} {s : Int × Int} {S : List (Int × Int)} {A L : List Tm} {v : Val} {n : Int} (hs : stpA A h k m s = (v, L, n)) (hn : ¬ n = 0) : mkR h k m (s :: S) A = ([], [], n) := by
  rw [mkR, hs]; exact if_neg hn
theorem preE_nil {r : AnsE} (hr : ¬ r.2.2 = 0 → r = ([], [], r.2.2)) : preE [] r = r := by
  unfold preE
  by_cases h : r.2.2 = 0
  · rw [if_pos h]
    obtain ⟨a, b, c⟩ := r
    dsimp only at h
    subst h
    rfl
  · rw [if_neg h]; exact (hr h).symm
theorem mkR_err {h k : Int} {m : Val} : ∀ (S : List (Int × Int)) {A : List Tm}, ¬ (mkR h k m S A).2.2 = 0 → mkR h k m S A = ([], [], (mkR h k m S A).2.2)
  | [], A, hn => absurd rfl hn
  | s :: S, A, hn => by
    rw [mkR] at hn ⊢
    split
    · rename_i h1
      rw [if_pos h1] at hn
      split
      · rename_i h2
        rw [if_pos h2] at hn
        exact absurd rfl hn
      · rfl
    · rfl
theorem preE_preE {E F : List En} {r : AnsE} : preE E (preE F r) = preE (E ++ F) r := by
  unfold preE
  by_cases h : r.2.2 = 0
  · rw [if_pos h, if_pos rfl, if_pos h, List.append_assoc]
  · rw [if_neg h, if_neg h, if_neg h]
theorem preE_bad {E : List En} {n : Int} (hn : ¬ n = 0) : preE E ([], [], n) = ([], [], n) := if_neg hn
theorem preE_end {E : List En} {L : List Tm} : preE E ([], L, 0) = (E, L, 0) := by unfold preE; rw [if_pos rfl, List.append_nil]
/-- is each what it should be -/
def okL (A : List Tm) (b : Bool) : List En → List (Int × Int) → Bool
  | [], [] => true
  | x :: S, c :: C => decide (x.1 = c) && (opn A x.2 && ((x.2.1 == b) && okL A b S C))
  | _, _ => false
def symE (S : List En) : Bool := (S[0]?.getD zE).2.1
def chk14 (A : List Tm) (h k i : Int) (S : List En) : Int := if decide (prsE h k i = 0) && (decide (Ok A) && okL A (symE S) S (prsL h k i)) then 0 else 1
theorem okL_len {A : List Tm} {b : Bool} : ∀ (S : List En) (C : List (Int × Int)), okL A b S C = true → S.length = C.length
  | [], [], _ => rfl
  | [], c :: C, h => by simp [okL] at h
  | x :: S, [], h => by simp [okL] at h
  | x :: S, c :: C, h => by
    rw [okL, Bool.and_eq_true, Bool.and_eq_true, Bool.and_eq_true] at h
    rw [List.length_cons, List.length_cons, okL_len S C h.2.2.2]
theorem okL_drop {A : List Tm} {b : Bool} {S : List En} {C : List (Int × Int)} {q : Nat} {x : En} {c : Int × Int} (hx : S[q]? = some x) (hc : C[q]? = some c) : okL A b (S.drop q) (C.drop q) = (decide (x.1 = c) && (opn A x.2 && ((x.2.1 == b) && okL A b (S.drop (q + 1)) (C.drop (q + 1))))) := by
  obtain ⟨h1, rfl⟩ := List.getElem?_eq_some_iff.1 hx
  obtain ⟨h2, rfl⟩ := List.getElem?_eq_some_iff.1 hc
  rw [List.drop_eq_getElem_cons h1, List.drop_eq_getElem_cons h2, okL]
theorem drop_cons14 {C : List (Int × Int)} {q : Nat} {s : Int × Int} (hs : C[q]? = some s) : C.drop q = s :: C.drop (q + 1) := by
  obtain ⟨h2, rfl⟩ := List.getElem?_eq_some_iff.1 hs
  exact List.drop_eq_getElem_cons h2
end M
end Go.Proofs.YthmiekinjfaflaaGreat
namespace Go.Proofs.YthmiekinjfaflaaGreat
open Go.RowKit
set_option maxRecDepth 100000 in
set_option maxHeartbeats 4000000 in
theorem rsameE_eq {S T : List M.En} {r : Bool} (hr : M.eqLs S T = r) {v1 v2 : Value} (w : World) (u1 : Es w v1 S) (u2 : Es w v2 T) :
    Calls Tryz.prog 7 #[v1, v2] w fun e w' => e = .returned (.bool r) ∧ Below w.heap.size w w' := by
  obtain ⟨a1, c1, rfl, hp1, hp2, hp4⟩ := u1.form
  obtain ⟨a2, c2, rfl, hq1, hq2, hq4⟩ := u2.form
  have hm : S.length ≤ maxLen := by omega
  unfold maxLen at hm
  have U1 := hidq u1
  have U2 := hidq u2
  have HP4 := hidq hp4
  have HQ4 := hidq hq4
  have HR := hidq hr
  clear hp4 hq4 u1 u2 hr
  by_cases hl : T.length = S.length
  · rw [hl] at hq1 U2 ⊢
    have HL := hidq hl
    clear hl
    generalize hn : S.length = n at *
    have HN := hidq hn
    clear hn
    go_enter Tryz.func7, Tryz.ntmps7
    go_wp2
    go_loopw [13] (fun i wr => ∃ k : Nat, k ≤ n ∧ i = .int .i64 k ∧ S.take k = T.take k ∧ Below w.heap.size w wr) (fun i _ => n - (intOf i).toNat)
    case atStart => exact ⟨0, by omega, rfl, rfl, Below.refl _ _⟩
    case round =>
      obtain ⟨k, hk, rfl, heq, hb⟩ := hrel
      have HE := hidq heq
      have HB := hidq hb
      clear heq
      by_cases hlt : k < n
      · have hki : (k : Int) < n := by omega
        obtain ⟨b1, o1, rfl⟩ := HP4.out (by omega)
        obtain ⟨b2, o2, rfl⟩ := HQ4.out (by omega)
        obtain ⟨x, hx⟩ : ∃ x, S[k]? = some x := ⟨_, List.getElem?_eq_getElem (by rw [HN.out]; exact hlt)⟩
        obtain ⟨y, hy⟩ : ∃ y, T[k]? = some y := ⟨_, List.getElem?_eq_getElem (by rw [HL.out]; exact hlt)⟩
        obtain ⟨x0, x1, x2, x3, x4, x5, x6, x7, x8, x9, xa⟩ := Es.cell (U1.out.below hb) hx
        obtain ⟨y0, y1, y2, y3, y4, y5, y6, y7, y8, y9, ya⟩ := Es.cell (U2.out.below hb) hy
        obtain ⟨q, hq⟩ : ∃ q, M.eqB x y = q := ⟨_, rfl⟩
        have heq := fun W => eqEn x y W
        rw [hq] at heq
        have HX := hidq hx
        have HY := hidq hy
        clear hx hy hb
        cases q with
        | true =>
          have hxy := M.eqB_iff.1 hq
          have HT := hidq (show S.take (k + 1) = T.take (k + 1) by rw [List.take_add_one, List.take_add_one, HX.out, HY.out, HE.out, hxy])
          clear hq hxy
          go_wp2_with (fail)
          go_region
          all_goals
            go_wp2
            go_roundw
            case rel => exact ⟨k + 1, by omega, by go_num, HT.out, HB.out.drew⟩
            case measure => simp [intOf]; omega
        | false =>
          have hrf : r = false := by
            rw [← HR.out, Bool.eq_false_iff]
            intro e
            have h1 := HX.out
            rw [M.eqLs_iff.1 e, HY.out] at h1
            rw [M.eqB_iff.2 (Option.some.inj h1).symm] at hq
            exact absurd hq (by decide)
          subst hrf
          clear hq
          go_wp2_with (fail)
          go_region
          all_goals
            go_wp2
            go_ret
            exact ⟨rfl, HB.out.drew⟩
      · obtain rfl : k = n := by omega
        have hki : ¬ (k : Int) < k := by omega
        have hrt : r = true := by
          rw [← HR.out, M.eqLs_iff]
          have h1 := HE.out
          rwa [List.take_of_length_le (by rw [HN.out]; exact Nat.le_refl _), List.take_of_length_le (by rw [HL.out]; exact Nat.le_refl _)] at h1
        subst hrt
        clear hb
        go_wp2
        go_ret
        exact ⟨rfl, HB.out⟩
  · have hrf : r = false := by
      rw [← HR.out, Bool.eq_false_iff]
      intro e; exact hl (by rw [M.eqLs_iff.1 e])
    subst hrf
    have h1 : ¬ (S.length : Int) = T.length := by omega
    have h2 : ((S.length : Int) == T.length) = false := by rw [beq_eq_false_iff_ne]; exact h1
    generalize S.length = n at *
    generalize T.length = m at *
    clear hl
    go_enter Tryz.func7, Tryz.ntmps7
    go_wp2
    go_ret
    exact ⟨rfl, Below.refl _ _⟩
end Go.Proofs.YthmiekinjfaflaaGreat
namespace Go.Proofs.YthmiekinjfaflaaGreat
open Go.RowKit
theorem M.chk0 {A : List M.Tm} {v : M.Val} : M.chkV A v = 0 ↔ M.Ok A ∧ M.mb A v = true := by
  unfold M.chkV
  by_cases hp : M.Ok A ∧ M.mb A v = true
  · rw [if_pos hp]; exact ⟨fun _ => hp, fun _ => rfl⟩
  · rw [if_neg hp]; exact ⟨fun h => (by cases h), fun h => absurd h hp⟩
theorem opn_chk {A : List M.Tm} {v : M.Val} (h : M.chkV A v = 0) : M.opn A v = !M.sld A v := by
  obtain ⟨h1, h2⟩ := M.chk0.1 h
  unfold M.opn
  rw [decide_eq_true h1, h2]; rfl
theorem opn_no {A : List M.Tm} {v : M.Val} (h : ¬ M.chkV A v = 0) : M.opn A v = false := by
  rw [Bool.eq_false_iff, Ne, M.opn_iff]
  exact fun hh => h (M.chk0.2 ⟨hh.1, hh.2.1⟩)
theorem chk_one {A : List M.Tm} {v : M.Val} (h : ¬ M.chkV A v = 0) : M.chkV A v = 1 := by
  unfold M.chkV at h ⊢
  by_cases hp : M.Ok A ∧ M.mb A v = true
  · rw [if_pos hp] at h; exact absurd rfl h
  · rw [if_neg hp]
theorem Bx9.set {W : World} {B : Nat} {v : M.Val} (h : Bx9 W B v) (x : M.Val) : Bx9 (((((((((W.setCell ⟨B, 0, none⟩ (.bool x.1)).setCell ⟨B, 1, none⟩ (.bool x.2.1)).setCell ⟨B, 2, none⟩ (.int .u64 (M.nu x.2.2.1.1))).setCell ⟨B, 3, none⟩ (.int .u64 (M.nu x.2.2.1.2))).setCell ⟨B, 4, none⟩ (.int .u64 (M.nu x.2.2.2.1.1.1))).setCell ⟨B, 5, none⟩ (.int .u64 (M.nu x.2.2.2.1.1.2))).setCell ⟨B, 6, none⟩ (.int .u64 (M.nu x.2.2.2.1.2.1))).setCell ⟨B, 7, none⟩ (.int .u64 (M.nu x.2.2.2.1.2.2))).setCell ⟨B, 8, none⟩ (.int .i64 x.2.2.2.2)) B x := by
  have h0 := Go.heap_setCell_same W B 0 _ _ (.bool x.1) h
  have h1 := Go.heap_setCell_same _ B 1 _ _ (.bool x.2.1) h0
  have h2 := Go.heap_setCell_same _ B 2 _ _ (.int .u64 (M.nu x.2.2.1.1)) h1
  have h3 := Go.heap_setCell_same _ B 3 _ _ (.int .u64 (M.nu x.2.2.1.2)) h2
  have h4 := Go.heap_setCell_same _ B 4 _ _ (.int .u64 (M.nu x.2.2.2.1.1.1)) h3
  have h5 := Go.heap_setCell_same _ B 5 _ _ (.int .u64 (M.nu x.2.2.2.1.1.2)) h4
  have h6 := Go.heap_setCell_same _ B 6 _ _ (.int .u64 (M.nu x.2.2.2.1.2.1)) h5
  have h7 := Go.heap_setCell_same _ B 7 _ _ (.int .u64 (M.nu x.2.2.2.1.2.2)) h6
  have h8 := Go.heap_setCell_same _ B 8 _ _ (.int .i64 x.2.2.2.2) h7
  clear h0 h1 h2 h3 h4 h5 h6 h7
  unfold Bx9
  rw [h8]
  simp
theorem Is.cellq {W : World} {b off n cap : Nat} {L : List Int} (h : Is W (.slice (some ⟨b, off, none⟩) n cap) L) {k : Nat} {x : Int} (hk : L[k]? = some x) : W.cell? ⟨b, off + k, none⟩ = some (.int .i64 x) := by
  have := Sl.at h hk (i := 0) (by decide)
  simpa [elInt] using this
theorem Bx9.other9 {W : World} {B g : Nat} {v : M.Val} (h : Bx9 W B v) (hg : B ≠ g) (a b c d e f i j k : Value) : Bx9 (((((((((W.setCell ⟨g, 0, none⟩ a).setCell ⟨g, 1, none⟩ b).setCell ⟨g, 2, none⟩ c).setCell ⟨g, 3, none⟩ d).setCell ⟨g, 4, none⟩ e).setCell ⟨g, 5, none⟩ f).setCell ⟨g, 6, none⟩ i).setCell ⟨g, 7, none⟩ j).setCell ⟨g, 8, none⟩ k) B v :=
  ((((((((h.other hg _).other hg _).other hg _).other hg _).other hg _).other hg _).other hg _).other hg _).other hg _
set_option maxRecDepth 100000 in
theorem Is.oneg (W : World) (x : Int) (g : Nat) (hg : W.heap.size = g) (h : M.fitI x) : Is (W.alloc (.cells #[.int .i64 x] 3)) (.slice (some ⟨g, 0, none⟩) 1 1) [x] := by
  subst hg
  exact Sl.of_own (E := elInt) (base := 0) (e := 3) (n := 1) ⟨rfl, .inr ⟨W.heap.size, 1, _, rfl, Nat.zero_le _, heap_alloc_new W _, Nat.le_refl _, by unfold maxLen; omega, rfl, rfl⟩⟩ (by intro y hy; simp at hy; subst hy; exact h)
theorem opn_fit {A : List M.Tm} {v : M.Val} (h : M.opn A v = true) : M.fitI v.2.2.2.2 := by
  obtain ⟨hA, hm, _⟩ := M.opn_iff.1 h
  obtain ⟨h1, h2⟩ := M.mb_iff.1 hm
  have := hA.1
  cases hs : v.1 with
  | true =>
    have := h2 hs
    exact ⟨by omega, by omega⟩
  | false =>
    have : v.2.2.2.2 = 0 := by
      rw [h1]
      unfold M.bare
      rw [if_neg (by rw [hs]; decide)]
      split <;> rfl
    rw [this]
    exact ⟨by decide, by decide⟩
theorem M.ok_fits {A : List M.Tm} (hA : M.Ok A) : ∀ x ∈ A, M.fitT x := by
  intro x hx
  obtain ⟨i, hi, rfl⟩ := List.mem_iff_getElem.1 hx
  have hm := (hA.2 i hi).1
  have hl := hA.1
  rw [show M.at_ A i = A[i] by unfold M.at_; rw [List.getElem?_eq_getElem hi]; rfl] at hm
  generalize A[i] = t at *
  obtain ⟨a, b, c⟩ := t
  have := M.may_kind hm
  dsimp only at this
  have f1 : M.fitI a := ⟨by omega, by omega⟩
  have f2 : M.fitI b := ⟨by omega, by omega⟩
  have f3 : M.fitI c := ⟨by omega, by omega⟩
  exact ⟨f1, f2, f3⟩
theorem ts_ofown {W : World} {base : Nat} {e : TypeId} {v : Value} {L : List M.Tm} (h : W.ownsRow base e 3 v L.length (elTm.cells L)) (hA : M.Ok L) : Ts W v L := Sl.of_own (E := elTm) h (M.ok_fits hA)
theorem walk_no {A : List M.Tm} {v : M.Val} {S : List Int} (h : ¬ (M.opn A v = true ∧ M.sdB S = true)) : M.walkA A v S = (M.zV, [], 1) := by
  unfold M.walkA
  rw [if_neg (by rw [Bool.and_eq_true]; exact h)]
theorem walk_yes {A : List M.Tm} {v : M.Val} {S : List Int} (h : M.opn A v = true) (hs : M.sdB S = true) : M.walkA A v S = M.wkR S A v := by
  unfold M.walkA
  rw [if_pos (by rw [h, hs]; rfl)]
theorem M.wkR_next {A B : List M.Tm} {v y : M.Val} {S : List Int} {k : Nat} {s : Int} (hw : M.wkR (S.take k) A v = (y, B, 0)) (hs : S[k]? = some s) : M.wkR (S.take (k + 1)) A v = M.partA B y s := by
  rw [List.take_add_one, hs, Option.toList_some, M.wkR_append, hw]
  unfold M.andW
  rw [if_pos rfl, M.wkR_one]
theorem M.wkR_stop {A B : List M.Tm} {v y : M.Val} {S : List Int} {k : Nat} {s : Int} (hw : M.wkR (S.take k) A v = (y, B, 0)) (hs : S[k]? = some s) (hp : ¬ (M.partA B y s).2.2 = 0) : M.wkR S A v = (M.zV, [], (M.partA B y s).2.2) := by
  obtain ⟨hk, hx⟩ := List.getElem?_eq_some_iff.1 hs
  have e : S.take k ++ (s :: S.drop (k + 1)) = S := by rw [← hx, List.getElem_cons_drop, List.take_append_drop]
  rw [← e, M.wkR_append, hw]
  unfold M.andW
  rw [if_pos rfl]
  show M.wkR (s :: _) B y = _
  unfold M.wkR
  rw [if_neg hp]
theorem ints_cells : ∀ L : List Int, ints L = elInt.cells L
  | [] => rfl
  | x :: L => by
    have := ints_cells L
    unfold ints at this ⊢
    unfold Elt.cells at this ⊢
    rw [List.map_cons, List.flatMap_cons, this]; rfl
theorem path_fit {a b : Int} : ∀ x ∈ M.pathL a b, M.fitI x := fun x hx => by
  rcases M.pathL_bit x hx with rfl | rfl
  · exact ⟨by decide, by decide⟩
  · exact ⟨by decide, by decide⟩
set_option maxRecDepth 100000 in
theorem is_path {W : World} {base : Nat} {v : Value} {a b : Int} (h : W.ownsRow base 3 1 v (M.pathL a b).length (ints (M.pathL a b))) : Is W v (M.pathL a b) := by
  rw [ints_cells] at h
  exact Sl.of_own (E := elInt) h path_fit
theorem M.pathE_1 {h n : Int} (hk : M.okB h n = false) : M.pathE h 1 n = 1 := by
  unfold M.pathE
  rw [hk, Bool.and_false]; rfl
set_option maxRecDepth 100000 in
theorem npath_is (h a b : Int) (w : World) (hka : M.okB h a = true) (hkb : M.okB h b = true) (hab : M.abv a b = true) :
    Calls Tryz.prog 71 #[.int .i64 h, .int .u64 a, .int .u64 b] w fun e w' => ∃ v, e = .returned (.tuple #[v, .int .i64 0]) ∧ Is w' v (M.pathL a b) ∧ Below w.heap.size w w' :=
  (path_yes h a b w hka hkb hab).mono fun _ _ ⟨h1, h2, h3⟩ => ⟨_, h1, is_path h2, h3⟩
theorem M.sub_no {h I J : Int} (hs : M.subB h I J = false) : M.subE h I J = 1 := by unfold M.subE; rw [hs]; rfl
theorem M.sub_yes {h I J : Int} (hs : M.subB h I J = true) : M.subE h I J = 0 := by unfold M.subE; rw [hs]; rfl
theorem M.lab_no {A : List M.Tm} {h : Int} {m : M.Val} {I J : Int} (hh : ¬ (M.subB h I J = true ∧ M.opn A m = true)) : M.labA A h m I J = (M.zV, [], 1) := by
  unfold M.labA
  rw [if_neg (by rw [Bool.and_eq_true]; exact hh)]
abbrev pathsIJ (I J : Int) : List Int := M.pathL 1 I ++ 2 :: M.sidesL I J
theorem M.key_no {A : List M.Tm} {h k : Int} {m : M.Val} {I J : Int} (hh : ¬ (M.myV h k I J = true ∧ M.opn A m = true)) : M.keyA A h k m I J = (M.zV, [], 1) := by
  unfold M.keyA
  rw [if_neg (by
    intro hc
    rw [Bool.and_eq_true, Bool.and_eq_true] at hc
    exact hh ⟨hc.1.2, hc.2⟩)]
theorem M.my_parts {h k I J : Int} (hy : M.myV h k I J = true) : M.kB k = true ∧ M.subB h I J = true ∧ M.myE h k I J = 0 := by
  unfold M.myV at hy
  rw [Bool.and_eq_true, Bool.and_eq_true] at hy
  refine ⟨hy.1.1, hy.1.2, ?_⟩
  unfold M.myE
  rw [hy.1.1, hy.1.2]; rfl
theorem M.key_yes {A : List M.Tm} {h k : Int} {m : M.Val} {I J : Int} (hy : M.myV h k I J = true) (ho : M.opn A m = true) : M.keyA A h k m I J = if k = 1 then M.labA A h m I J else M.andP (M.labA A h m I J) 2 := by
  obtain ⟨h1, h2, -⟩ := M.my_parts hy
  unfold M.keyA
  rw [if_pos (by rw [h1, h2, hy, ho]; rfl)]
end Go.Proofs.YthmiekinjfaflaaGreat
