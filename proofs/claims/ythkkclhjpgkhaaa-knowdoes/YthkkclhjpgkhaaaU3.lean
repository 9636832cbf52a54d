/-
  What the program's placesOf, Check, checkPlace and Find come to at every input. Conditions: the slice holds terms.
-/
import Derived.Test.YthkkclhjpgkhaaaU2
namespace Go.Proofs.Ythkkclhjpgkhaaa
open Go.RowKit
/-- what placesOf has stored of the first k terms -/
def Pls (A : List M.Tm) (k : Nat) (K : List (M.Tm × Int)) : Prop := (∀ j, j < k → M.mayB (M.at_ A j) j = true) ∧ ((K = kpl A k ∧ ∀ j, j < k → M.okAt A j) ∨ (K.length < k ∧ ∃ j, j < k ∧ ¬ M.okAt A j))
theorem Pls.zero (A : List M.Tm) : Pls A 0 [] := ⟨fun j hj => by omega, .inl ⟨rfl, fun j hj => by omega⟩⟩
theorem Pls.next {A : List M.Tm} {k : Nat} {K K' : List (M.Tm × Int)} {s : M.Tm} (h : Pls A k K) (hk : k < A.length) (hs : M.at_ A k = s) (hm : M.mayB s k = true) (h1 : K'.length ≤ K.length + 1) (h2 : kfind s K = none → K' = K ++ [(s, (k : Int))]) (h3 : (kfind s K).isSome = true → K'.length = K.length) : Pls A (k + 1) K' := by
  obtain ⟨ha, hb⟩ := h
  refine ⟨fun j hj => ?_, ?_⟩
  · rcases Nat.lt_or_ge j k with h | h
    · exact ha j h
    · obtain rfl : j = k := by omega
      rw [hs]; exact hm
  · rcases hb with ⟨rfl, hall⟩ | ⟨hl, j, hj, hno⟩
    · have hf := kfind_kpl A s k (by omega)
      have hkl : (kpl A k).length = k := by simp [kpl]
      cases hp : M.plc s (A.take k) with
      | none =>
        rw [hp, Option.map_none] at hf
        refine .inl ⟨by rw [h2 hf, kpl_succ, hs], fun j hj => ?_⟩
        rcases Nat.lt_or_ge j k with h | h
        · exact hall j h
        · obtain rfl : j = k := by omega
          exact ⟨by rw [hs]; exact hm, by rw [hs]; exact hp⟩
      | some i =>
        rw [hp, Option.map_some] at hf
        refine .inr ⟨by rw [h3 (by rw [hf]; rfl), hkl]; omega, k, by omega, fun h => ?_⟩
        have := h.2
        rw [hs, hp] at this
        cases this
    · exact .inr ⟨by omega, j, by omega, hno⟩
theorem Pls.all {A : List M.Tm} {K : List (M.Tm × Int)} (h : Pls A A.length K) (hl : A.length ≤ 65536) : (M.Ok A ∧ K = kpl A A.length ∧ K.length = A.length) ∨ (¬ M.Ok A ∧ K.length < A.length) := by
  rcases h.2 with ⟨h1, h2⟩ | ⟨h1, j, h2, h3⟩
  · exact .inl ⟨⟨hl, h2⟩, h1, by rw [h1]; simp [kpl]⟩
  · exact .inr ⟨fun h => h3 (h.2 j h2), h1⟩
/-- what placesOf comes to -/
def PlsC (A : List M.Tm) (w : World) (e : Ending) (w' : World) : Prop := (M.Ok A ∧ ∃ b, e = .returned (.tuple #[.map (some b), .int .i64 0]) ∧ Mp w' b (kpl A A.length) ∧ Below w.heap.size w w') ∨ (¬ M.Ok A ∧ e = .returned (.tuple #[.map none, .int .i64 1]) ∧ Below w.heap.size w w')
set_option maxRecDepth 100000 in
set_option maxHeartbeats 4000000 in
theorem placesOf_any (A : List M.Tm) (v1 : Value) (w : World) (u1 : Ts w v1 A) : Calls Try.prog 50 #[v1] w fun e w' => PlsC A w e w' := by
  obtain ⟨a1, c1, rfl, hp1, hp2, hp4⟩ := u1.form
  have hm : A.length ≤ maxLen := by omega
  unfold maxLen at hm
  have U := hidq (fun X (hb : Below w.heap.size w X) => u1.below hb)
  have HP4 := hidq hp4
  clear hp4 u1
  have hmk := run_makeMapT
  by_cases h16 : A.length ≤ 65536
  · have HC := hidq (fun (K : List (M.Tm × Int)) (h : Pls A A.length K) => h.all h16)
    generalize hn : A.length = n at *
    have HN := hidq hn
    clear hn
    have HM0 := hidq (Mp.new w)
    have HB0 := hidq (below_one (o := .map #[] 0) (Below.refl w.heap.size w))
    go_enter Try.func50, Try.ntmps50
    go_wp2
    go_loopw [15] (fun i wr => ∃ (k : Nat) (K : List (M.Tm × Int)), k ≤ n ∧ i = .int .i64 k ∧ Below w.heap.size w wr ∧ Mp wr w.heap.size K ∧ Pls A k K) (fun i _ => n - (intOf i).toNat)
    case atStart => exact ⟨0, [], by omega, rfl, HB0.out, HM0.out, Pls.zero A⟩
    case round =>
      obtain ⟨k, K, hk, rfl, hb, hmp, hall⟩ := hrel
      have HA := hidq hall
      have HB := hidq hb
      have HMP := hidq hmp
      clear hall hmp HM0 HB0
      by_cases hlt : k < n
      · obtain ⟨b1, o1, rfl⟩ := HP4.out (by omega)
        obtain ⟨x1, x2, x3⟩ := Ts.cell (U.out _ hb) (k := k) (by rw [HN.out]; exact hlt)
        have hft := Ts.fit (U.out _ hb) (k := k) (by rw [HN.out]; exact hlt)
        clear hb
        obtain ⟨s, hs⟩ : ∃ s, M.at_ A k = s := ⟨_, rfl⟩
        rw [hs] at x1 x2 x3 hft
        have HFT := hidq hft
        have HS := hidq hs
        have X := hidq (Bx3.new wr s)
        have HB1 := hidq (below_one (o := .cells #[.int .i64 s.1, .int .i64 s.2.1, .int .i64 s.2.2] 41) HB.out)
        have HM1 := hidq (HMP.out.alloc (.cells #[.int .i64 s.1, .int .i64 s.2.1, .int .i64 s.2.2] 41))
        clear hs hft
        by_cases hM : M.mayB s k = true
        · have HM := hidq hM
          clear hM
          go_wp2_with (first | (go_at_call 64; refine (mayBe_eq HM.out _).mono ?_; rintro r w2 ⟨rfl, hb2⟩; have B2 := hidq (below_trans HB1.out hb2); have M2 := hidq (HM1.out.below hb2); have X2 := X.out.below hb2; have c2 := X2.cells; clear hb2) | (at_mapUpdate; refine wpList_storeA _ rfl _ _ _ rfl w.heap.size K s k rfl rfl rfl HFT.out M2.out ?_; intro w3 K' hm3 hl1 hl2 hl3 hg3))
          have B3 := hidq (B2.out.grown hg3 B2.out.size (fun q hq => by cases hq; exact Nat.le_refl _))
          have M3 := hidq hm3
          have HA3 := hidq (Pls.next HA.out (by rw [HN.out]; exact hlt) HS.out HM.out hl1 hl2 hl3)
          clear hm3 hg3 hl1 hl2 hl3
          go_roundw
          case rel => exact ⟨k + 1, K', by omega, by go_num, B3.out, M3.out, HA3.out⟩
          case measure => simp [intOf]; omega
        · have HM := hidq (show M.mayB s k = false by simpa using hM)
          have HNO := hidq (show ¬ M.Ok A from fun h => hM (by rw [← HS.out]; exact (h.2 k (by rw [HN.out]; exact hlt)).1))
          clear hM
          go_wp2_with (first | (go_at_call 64; refine (mayBe_eq HM.out _).mono ?_; rintro r w2 ⟨rfl, hb2⟩; have B2 := hidq (below_trans HB1.out hb2); clear hb2))
          go_ret2
          exact .inr ⟨HNO.out, rfl, B2.out⟩
      · clear hb
        obtain rfl : k = n := by omega
        have hlen := fun ty => run_lenT HMP.out ty
        rcases HC.out K HA.out with ⟨hok, hK, hKl⟩ | ⟨hno, hKl⟩
        · have HOK := hidq hok
          have HK := hidq hK
          rw [hKl] at hlen
          clear hok hK hKl
          go_wp2
          go_ret2
          exact .inl ⟨HOK.out, _, rfl, by rw [HN.out, ← HK.out]; exact HMP.out, HB.out⟩
        · have HNO := hidq hno
          clear hno
          have hne : ¬ (K.length : Int) = k := by omega
          go_wp2
          go_ret2
          exact .inr ⟨HNO.out, rfl, HB.out⟩
  · have h16i : (65536 : Int) < A.length := by omega
    have HNO := hidq (show ¬ M.Ok A from fun h => h16 h.1)
    go_enter Try.func50, Try.ntmps50
    go_wp2
    go_ret2
    exact .inr ⟨HNO.out, rfl, Below.refl _ _⟩
end Go.Proofs.Ythkkclhjpgkhaaa
