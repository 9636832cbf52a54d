/-
  What the document's own answers of layer 12 are, at every input: covers by each scheme, bounds, whether a subset may be. Conditions: the slice holds numbers, they fit their kind.
-/
import Derived.Test.YtmicgojojkkkhaaGreatZJ3
import Derived.Test.YtmicgojojkkkhaaGreatZLb4
import Derived.Test.YtmicgojojkkkhaaGreatZTR
import Derived.Test.YtmicgojojkkkhaaGreatZX0
namespace Go.Proofs.YtmicgojojkkkhaaGreat
open Go.RowKit
namespace M
def lyE (h k : Int) (L : List Int) : Int := if kB k && setB h L then 0 else 1
def lyL (h k : Int) (L : List Int) : List (Int × Int) := if kB k && setB h L then (if k = 1 then cvL h L else if k = 2 then dfL h L else ldL h L) else []
def lbE (h k many : Int) : Int := if kB k && cntB h many then 0 else 1
def lbV (h k many : Int) : Int := if kB k && cntB h many then (if k = 1 then bdV h many else if k = 2 then dbV h many else if many = 0 then 1 else 2 * (2 * many - 1)) else 0
theorem setE_not {h : Int} {L : List Int} (hs : setB h L = false) : setE h L = 1 := by unfold setE; rw [hs]; rfl
theorem set_ht {h : Int} {L : List Int} (hs : setB h L = true) : htB h = true := by obtain ⟨s1, s2, -⟩ := set_of hs; exact ht_mk s1 s2
theorem dfL_small {h : Int} {L : List Int} (hs : setB h L = true) : (dfL h L).length ≤ 2048 := by
  obtain ⟨b1, b2⟩ := dfL_bound hs
  obtain ⟨s1, s2, s3, -⟩ := set_of hs
  have : dbV h L.length ≤ 2047 := by unfold dbV; rw [b1, if_pos rfl]; split <;> omega
  omega
end M
set_option maxRecDepth 100000 in
set_option maxHeartbeats 1000000 in
theorem rlbound_any (h k many : Int) (w : World) (hm0 : -9223372036854775808 ≤ many) (hm1 : many ≤ 9223372036854775807) :
    Calls Tryz.prog 8 #[.int .i64 h, .int .i64 k, .int .i64 many] w fun e w' => e = .returned (.tuple #[.int .u64 (M.lbV h k many), .int .i64 (M.lbE h k many)]) ∧ Below w.heap.size w w' := by
  unfold M.lbV M.lbE
  cases hk : M.kB k with
  | false =>
    have hsc : (M.htB h && M.kB k) = false := by rw [hk, Bool.and_false]
    go_enter Tryz.func8, Tryz.ntmps8
    go_wp2_with (first | (go_at_call 18; refine (rscheme_any h _ _).mono ?_; rw [hsc]; rintro e w' ⟨rfl, hw⟩; subst w'))
    go_ret2
    exact ⟨rfl, Below.refl _ _⟩
  | true =>
    cases hh : M.htB h with
    | false =>
      have hsc : (M.htB h && M.kB k) = false := by rw [hh]; rfl
      have hc : M.cntB h many = false := by unfold M.cntB; rw [hh]; rfl
      rw [hc]
      go_enter Tryz.func8, Tryz.ntmps8
      go_wp2_with (first | (go_at_call 18; refine (rscheme_any h _ _).mono ?_; rw [hsc]; rintro e w' ⟨rfl, hw⟩; subst w'))
      go_ret2
      exact ⟨rfl, Below.refl _ _⟩
    | true =>
      have hsc : (M.htB h && M.kB k) = true := by rw [hh, hk]; rfl
      cases hc : M.cntB h many with
      | false =>
        have hbe : M.bdE h many = 1 := by unfold M.bdE; rw [hc]; rfl
        have hb1v : M.bdV h many = 0 := by unfold M.bdV; rw [hc]; rfl
        have hb2v : M.dbV h many = 0 := by unfold M.dbV; rw [hc]; rfl
        rcases M.kB_of hk with rfl | rfl | rfl
        · go_enter Tryz.func8, Tryz.ntmps8
          go_wp2_with (first | (go_at_call 18; refine (rscheme_any h _ _).mono ?_; rw [hsc]; rintro e w' ⟨rfl, hw⟩; subst w') | (go_at_call 25; refine (rbound_any h many _ hm0 hm1).mono ?_; rw [hbe, hb1v]; rintro e w1 ⟨rfl, hb1⟩))
          go_ret2
          exact ⟨rfl, hb1⟩
        · go_enter Tryz.func8, Tryz.ntmps8
          go_wp2_with (first | (go_at_call 18; refine (rscheme_any h _ _).mono ?_; rw [hsc]; rintro e w' ⟨rfl, hw⟩; subst w') | (go_at_call 26; refine (rdbound_any h many _ hm0 hm1).mono ?_; rw [hbe, hb2v]; rintro e w1 ⟨rfl, hb1⟩))
          go_ret2
          exact ⟨rfl, hb1⟩
        · by_cases c0 : 0 < many
          · go_enter Tryz.func8, Tryz.ntmps8
            go_wp2_with (first | (go_at_call 18; refine (rscheme_any h _ _).mono ?_; rw [hsc]; rintro e w' ⟨rfl, hw⟩; subst w') | (go_at_call 26; refine (rdbound_any h many _ hm0 hm1).mono ?_; rw [hbe, hb2v]; rintro e w1 ⟨rfl, hb1⟩))
            go_ret2
            exact ⟨rfl, hb1⟩
          · go_enter Tryz.func8, Tryz.ntmps8
            go_wp2_with (first | (go_at_call 18; refine (rscheme_any h _ _).mono ?_; rw [hsc]; rintro e w' ⟨rfl, hw⟩; subst w') | (go_at_call 26; refine (rdbound_any h many _ hm0 hm1).mono ?_; rw [hbe, hb2v]; rintro e w1 ⟨rfl, hb1⟩))
            go_ret2
            exact ⟨rfl, hb1⟩
      | true =>
        have hbe : M.bdE h many = 0 := by unfold M.bdE; rw [hc]; rfl
        obtain ⟨s1, s2, s3, s4, s5⟩ := M.cnt_of hc
        rcases M.kB_of hk with rfl | rfl | rfl
        · rw [if_pos rfl]
          go_enter Tryz.func8, Tryz.ntmps8
          go_wp2_with (first | (go_at_call 18; refine (rscheme_any h _ _).mono ?_; rw [hsc]; rintro e w' ⟨rfl, hw⟩; subst w') | (go_at_call 25; refine (rbound_any h many _ hm0 hm1).mono ?_; rw [hbe]; rintro e w1 ⟨rfl, hb1⟩))
          go_ret2
          exact ⟨rfl, hb1⟩
        · rw [if_neg (show ¬ (2 : Int) = 1 by decide), if_pos (rfl : (2 : Int) = 2)]
          go_enter Tryz.func8, Tryz.ntmps8
          go_wp2_with (first | (go_at_call 18; refine (rscheme_any h _ _).mono ?_; rw [hsc]; rintro e w' ⟨rfl, hw⟩; subst w') | (go_at_call 26; refine (rdbound_any h many _ hm0 hm1).mono ?_; rw [hbe]; rintro e w1 ⟨rfl, hb1⟩))
          go_ret2
          exact ⟨rfl, hb1⟩
        · rw [if_neg (show ¬ (3 : Int) = 1 by decide), if_neg (show ¬ (3 : Int) = 2 by decide)]
          by_cases c0 : many = 0
          · have hv : M.dbV h many = 1 := by unfold M.dbV; rw [hc, if_pos rfl, if_pos c0]
            have c1 : ¬ 0 < many := by omega
            rw [if_pos c0]
            clear c0
            go_enter Tryz.func8, Tryz.ntmps8
            go_wp2_with (first | (go_at_call 18; refine (rscheme_any h _ _).mono ?_; rw [hsc]; rintro e w' ⟨rfl, hw⟩; subst w') | (go_at_call 26; refine (rdbound_any h many _ hm0 hm1).mono ?_; rw [hbe, hv]; rintro e w1 ⟨rfl, hb1⟩))
            go_ret2
            exact ⟨rfl, hb1⟩
          · have hv : M.dbV h many = 2 * many - 1 := by unfold M.dbV; rw [hc, if_pos rfl, if_neg c0]
            have c1 : 0 < many := by omega
            have hw1 : IntKind.u64.wrap (2 * (2 * many - 1)) = 2 * (2 * many - 1) := M.wrapu_id (by omega) (by omega)
            rw [if_neg c0]
            go_enter Tryz.func8, Tryz.ntmps8
            go_wp2_with (first | (go_at_call 18; refine (rscheme_any h _ _).mono ?_; rw [hsc]; rintro e w' ⟨rfl, hw⟩; subst w') | (go_at_call 26; refine (rdbound_any h many _ hm0 hm1).mono ?_; rw [hbe, hv]; rintro e w1 ⟨rfl, hb1⟩))
            go_ret2
            exact ⟨rfl, hb1⟩
end Go.Proofs.YtmicgojojkkkhaaGreat
namespace Go.Proofs.YtmicgojojkkkhaaGreat
open Go.RowKit
namespace M
theorem part_take (h : Int) (X : List (Int × Int)) (k : Nat) (s : Int × Int) (hk : X[k]? = some s) : (X.take (k + 1)).flatMap (fun s => spl h s.1 s.2) = (X.take k).flatMap (fun s => spl h s.1 s.2) ++ spl h s.1 s.2 := by
  rw [List.take_add_one, hk, List.flatMap_append]; simp
theorem spl_len (h I J : Int) : (spl h I J).length ≤ 2 := by unfold spl; split <;> (try split) <;> simp
theorem part_len (h : Int) : ∀ X : List (Int × Int), (X.flatMap fun s => spl h s.1 s.2).length ≤ 2 * X.length
  | [] => by simp
  | x :: t => by
    have := part_len h t
    have := spl_len h x.1 x.2
    rw [List.flatMap_cons, List.length_append, List.length_cons]; omega
theorem spl_fit {h I J : Int} (hs : subB h I J = true) : ∀ x ∈ spl h I J, 0 ≤ x.1 ∧ x.1 ≤ 18446744073709551615 ∧ 0 ≤ x.2 ∧ x.2 ≤ 18446744073709551615 := by
  have hI := (sub_of hs).1
  have k1 := (ok_of hI).2.2.1
  have k2 := ok_lt hI
  unfold spl
  by_cases hJ : J = 0
  · rw [if_pos hJ]; intro x hx; simp at hx; subst hx; dsimp only; omega
  · have hK := (sub_in hs hJ).1
    have j1 := (ok_of hK).2.2.1
    have j2 := ok_lt hK
    rw [if_neg hJ]
    cases hc : cutB h I J with
    | false => intro x hx; simp at hx; subst hx; dsimp only; omega
    | true =>
      obtain ⟨-, -, -, c4, -⟩ := cut_of hs hJ hc
      have m1 := (ok_of c4).2.2.1
      have m2 := ok_lt c4
      intro x hx
      simp at hx
      rcases hx with rfl | rfl <;> dsimp only <;> omega
end M
set_option maxRecDepth 100000 in
set_option maxHeartbeats 4000000 in
theorem rlcover_any (h k : Int) (L : List Int) (v : Value) (w : World) (hu : Us w v L) :
    Calls Tryz.prog 6 #[.int .i64 h, .int .i64 k, v] w fun e w' => ∃ v', e = .returned (.tuple #[v', .int .i64 (M.lyE h k L)]) ∧ Ss w' v' (M.lyL h k L) ∧ Below w.heap.size w w' := by
  obtain ⟨ao, cap, rfl, -⟩ := us_view hu
  unfold M.lyL M.lyE
  cases hk : M.kB k with
  | false =>
    have hsc : (M.htB h && M.kB k) = false := by rw [hk, Bool.and_false]
    go_enter Tryz.func6, Tryz.ntmps6
    go_wp2_with (first | (go_at_call 18; refine (rscheme_any h _ _).mono ?_; rw [hsc]; rintro e w' ⟨rfl, hw⟩; subst w'))
    go_ret2
    exact ⟨_, rfl, Sl.nil _ _, Below.refl _ _⟩
  | true =>
    cases hs : M.setB h L with
    | false =>
      have hE := M.setE_not hs
      have hE0 : ¬ M.setE h L = 0 := by omega
      cases hh : M.htB h with
      | false =>
        have hsc : (M.htB h && M.kB k) = false := by rw [hh]; rfl
        go_enter Tryz.func6, Tryz.ntmps6
        go_wp2_with (first | (go_at_call 18; refine (rscheme_any h _ _).mono ?_; rw [hsc]; rintro e w' ⟨rfl, hw⟩; subst w'))
        go_ret2
        exact ⟨_, rfl, Sl.nil _ _, Below.refl _ _⟩
      | true =>
        have hsc : (M.htB h && M.kB k) = true := by rw [hh, hk]; rfl
        have h1 := M.cvL_no hE0
        have h2 := M.dfL_no hE0
        clear hE0
        rcases M.kB_of hk with rfl | rfl | rfl
        · go_enter Tryz.func6, Tryz.ntmps6
          go_wp2_with (first | (go_at_call 18; refine (rscheme_any h _ _).mono ?_; rw [hsc]; rintro e w' ⟨rfl, hw⟩; subst w') | (go_at_call 19; refine (rcover_any h L _ _ hu).mono ?_; rw [hE]; rintro e w1 ⟨v1, rfl, s1, hb1⟩; have S1 := hidq s1; have B1 := hidq hb1; clear s1 hb1))
          go_ret2
          exact ⟨_, rfl, by have := S1.out; rwa [h1] at this, B1.out⟩
        · go_enter Tryz.func6, Tryz.ntmps6
          go_wp2_with (first | (go_at_call 18; refine (rscheme_any h _ _).mono ?_; rw [hsc]; rintro e w' ⟨rfl, hw⟩; subst w') | (go_at_call 20; refine (rdcover_any h L _ _ hu).mono ?_; rw [hE]; rintro e w1 ⟨v1, rfl, s1, hb1⟩; have S1 := hidq s1; have B1 := hidq hb1; obtain ⟨a1, c1, rfl, k1, -, p1⟩ := s1.form; clear s1 hb1))
          go_ret2
          exact ⟨_, rfl, by have := S1.out; rwa [h2] at this, B1.out⟩
        · go_enter Tryz.func6, Tryz.ntmps6
          go_wp2_with (first | (go_at_call 18; refine (rscheme_any h _ _).mono ?_; rw [hsc]; rintro e w' ⟨rfl, hw⟩; subst w') | (go_at_call 20; refine (rdcover_any h L _ _ hu).mono ?_; rw [hE]; rintro e w1 ⟨v1, rfl, s1, hb1⟩; have S1 := hidq s1; have B1 := hidq hb1; obtain ⟨a1, c1, rfl, k1, -, p1⟩ := s1.form; clear s1 hb1))
          go_ret2
          exact ⟨_, rfl, by have := S1.out; rwa [h2] at this, B1.out⟩
    | true =>
      have hE := M.setE_zero.2 hs
      have hh := M.set_ht hs
      have hsc : (M.htB h && M.kB k) = true := by rw [hh, hk]; rfl
      rcases M.kB_of hk with rfl | rfl | rfl
      · rw [if_pos rfl]
        go_enter Tryz.func6, Tryz.ntmps6
        go_wp2_with (first | (go_at_call 18; refine (rscheme_any h _ _).mono ?_; rw [hsc]; rintro e w' ⟨rfl, hw⟩; subst w') | (go_at_call 19; refine (rcover_any h L _ _ hu).mono ?_; rw [hE]; rintro e w1 ⟨v1, rfl, s1, hb1⟩; have S1 := hidq s1; have B1 := hidq hb1; clear s1 hb1))
        go_ret2
        exact ⟨_, rfl, S1.out, B1.out⟩
      · rw [if_neg (show ¬ (2 : Int) = 1 by decide), if_pos (rfl : (2 : Int) = 2)]
        go_enter Tryz.func6, Tryz.ntmps6
        go_wp2_with (first | (go_at_call 18; refine (rscheme_any h _ _).mono ?_; rw [hsc]; rintro e w' ⟨rfl, hw⟩; subst w') | (go_at_call 20; refine (rdcover_any h L _ _ hu).mono ?_; rw [hE]; rintro e w1 ⟨v1, rfl, s1, hb1⟩; have S1 := hidq s1; have B1 := hidq hb1; obtain ⟨a1, c1, rfl, k1, -, p1⟩ := s1.form; clear s1 hb1))
        go_ret2
        exact ⟨_, rfl, S1.out, B1.out⟩
      · rw [if_neg (show ¬ (3 : Int) = 1 by decide), if_neg (show ¬ (3 : Int) = 2 by decide)]
        have HSu := hidq (M.dfL_sub hs)
        have HFi := hidq (M.dfL_fit hs)
        have HCl := hidq (M.dfL_small hs)
        unfold M.ldL
        go_enter Tryz.func6, Tryz.ntmps6
        go_wp2_with (first | (go_at_call 18; refine (rscheme_any h _ _).mono ?_; rw [hsc]; rintro e w' ⟨rfl, hw⟩; subst w') | (go_at_call 20; refine (rdcover_any h L _ _ hu).mono ?_; rw [hE]; rintro e w1 ⟨v1, rfl, s1, hb1⟩; have S1 := hidq s1; have B1 := hidq hb1; obtain ⟨a1, c1, rfl, k1, -, p1⟩ := s1.form; clear s1 hb1))
        obtain ⟨X, hX⟩ : ∃ X, M.dfL h L = X := ⟨_, rfl⟩
        have HXX := hidq hX
        rw [hX] at HSu HFi HCl S1 k1 ⊢
        clear hX
        generalize hN : X.length = N at *
        have HN := hidq hN
        clear hN
        obtain ⟨Pn, hPn⟩ : ∃ Pn : Nat → List (Int × Int), ∀ q, Pn q = (X.take q).flatMap (fun s => M.spl h s.1 s.2) := ⟨_, fun _ => rfl⟩
        have HP0 := hidq (show Pn 0 = [] by rw [hPn]; rfl)
        have HPN := hidq (show Pn N = X.flatMap (fun s => M.spl h s.1 s.2) by rw [hPn, List.take_of_length_le (by rw [HN.out]; exact Nat.le_refl _)])
        have HPY := hidq (fun q s (hq : X[q]? = some s) => show Pn (q + 1) = Pn q ++ M.spl h s.1 s.2 by rw [hPn, hPn]; exact M.part_take h X q s hq)
        have HPl := hidq (fun q => show (Pn q).length ≤ 4096 by
          rw [hPn]
          have := M.part_len h (X.take q)
          have h2 : (X.take q).length ≤ X.length := by rw [List.length_take]; omega
          have := HN.out
          have := HCl.out
          omega)
        have HPf := hidq (fun q => show ∀ x ∈ Pn q, 0 ≤ x.1 ∧ x.1 ≤ 18446744073709551615 ∧ 0 ≤ x.2 ∧ x.2 ≤ 18446744073709551615 from fun x hx => by
          rw [hPn] at hx
          obtain ⟨s, hs, hx⟩ := List.mem_flatMap.1 hx
          exact M.spl_fit (HSu.out s (List.mem_of_mem_take hs)) x hx)
        clear hPn
        go_loopw [42, 10] (fun i x wr => ∃ q : Nat, q ≤ N ∧ i = .int .i64 q ∧ wr.ownsRow w1.heap.size 25 2 x (Pn q).length (elSub.cells (Pn q)) ∧ Below w1.heap.size w1 wr) (fun i _ _ => N - (intOf i).toNat)
        case atStart => exact ⟨0, by omega, rfl, by rw [HP0.out]; exact World.ownsRow_nil _ _ _ _, Below.refl _ _⟩
        case round =>
          obtain ⟨q, hq, rfl, hown, hb⟩ := hrel
          have HO := hidq hown
          have HB := hidq hb
          by_cases hqn : q < N
          · have hqi : (q : Int) < N := by omega
            have hN8 := HCl.out
            obtain ⟨b1, o1, rfl⟩ := p1 (by omega)
            obtain ⟨s, hs⟩ : ∃ s, X[q]? = some s := ⟨_, List.getElem?_eq_getElem (by rw [HN.out]; exact hqn)⟩
            obtain ⟨x1, x2⟩ := Ss.at (S1.out.below hb) hs
            have hm := List.mem_of_getElem? hs
            obtain ⟨f1, f2, f3, f4, -⟩ := HFi.out s hm
            have hsb := HSu.out s hm
            have HT := hidq (HPY.out q s hs)
            obtain ⟨y, d⟩ := s
            dsimp only at x1 x2 f1 f2 f3 f4 hsb HT
            have SC := hidq (fun W => rsplit_all h y d W (by omega) f2 f3 f4)
            rw [M.spA_yes hsb, M.subE_yes hsb] at SC
            have SX := Bi.new wr 25 y d
            obtain ⟨SXa, SXb⟩ := SX.facts
            have HPs := hidq (HPl.out q)
            have HSp := hidq (M.spl_len h y d)
            generalize M.spl h y d = Z at *
            clear hs hm hsb hown hb SX f1 f2 f3 f4
            go_wp2_with (first | (go_at_call 21; refine (SC.out _).mono ?_; rintro e w5 ⟨a5, c5, rfl, s5, hb5⟩; have S5 := hidq s5; have R5 := hidq (below_trans (below_one (o := (.cells #[.int .u64 y, .int .u64 d] 25)) (Below.refl wr.heap.size wr)) hb5); clear s5 hb5) | (at_builtin; refine wpList_append_sl (E := elSub) rfl _ _ rfl w1.heap.size _ _ _ rfl (own_kept HO.out R5.out) _ _ rfl S5.out (by have := HPs.out; have := HSp.out; omega) (by have := HB.out.size; have := R5.out.size; omega) ?_; intro v7 w7 hown7 hgrow7; have O7 := hidq hown7; have B7 := hidq ((below_trans HB.out R5.out).grown hgrow7 (by have := HB.out.size; have := R5.out.size; omega) (fun q hq => (HO.out.lt q hq).1)); clear hown7 hgrow7))
            go_roundw
            case rel => exact ⟨q + 1, by omega, by go_num, by rw [HT.out, List.length_append]; exact O7.out, B7.out⟩
            case measure => simp [intOf]; omega
          · obtain rfl : q = N := by omega
            have hqi : ¬ (q : Int) < q := by omega
            have HS := hidq (own_form2 hown (HPf.out q))
            have HSL := hidq (show (Pn q).length ≤ 160000 by have := HPl.out q; omega)
            clear hown hb
            go_wp2_with (first | (go_at_call 22; refine (rorder_all _ _ _ HS.out HSL.out).mono ?_; rintro e w8 ⟨v8, rfl, s8, hb8⟩; have S8 := hidq s8; have B8 := hidq hb8; clear s8 hb8))
            go_ret2
            exact ⟨_, rfl, by rw [HXX.out, ← HPN.out]; exact S8.out, below_trans (below_trans B1.out HB.out) B8.out⟩
end Go.Proofs.YtmicgojojkkkhaaGreat
