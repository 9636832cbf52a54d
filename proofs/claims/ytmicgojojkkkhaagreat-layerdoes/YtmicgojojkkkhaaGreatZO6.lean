/-
  What steiner.Is, Many, Down, Forks and Hang answer at every input. Conditions: the slice holds numbers that fit.
-/
import Derived.Test.YtmicgojojkkkhaaGreatZFU
import Derived.Test.YtmicgojojkkkhaaGreatZO5
namespace Go.Proofs.YtmicgojojkkkhaaGreat
open Go.RowKit
namespace M
def isV (h : Int) (L : List Int) (n : Int) : Bool := decide (0 < (belV h L n).length)
def tmV (h : Int) (L : List Int) : Int := if setE h L = 0 then ((tree h L).length : Int) else 0
def tfV (h : Int) (L : List Int) : List Int := if setE h L = 0 then (tree h L).filter (frk h L) else []
def thV (h : Int) (L : List Int) : List Int := if setE h L = 0 then (if L.length = 0 then [1] else (tree h L).flatMap (outk h L)) else []
def dnE (h : Int) (L : List Int) (n : Int) : Int := if belE h L n = 0 then (if (belV h L n).length = 0 then 4 else 0) else 1
def fstL (L : List Int) : Int := L[0]?.getD 0
def lstL (L : List Int) : Int := L[L.length - 1]?.getD 0
def dnV (h : Int) (L : List Int) (n : Int) : Int := if dnE h L n = 0 then meet (p2 h + fstL (belV h L n)) (p2 h + lstL (belV h L n)) else 0
theorem tre_nil (h : Int) : ∀ k, tre h [] k = [] := fun k => by
  induction k with
  | zero => rfl
  | succ k ih => unfold tre lev; rw [ih]; rfl
theorem tree_nil (h : Int) : tree h [] = [] := tre_nil h _
theorem setE_zero {h : Int} {L : List Int} : setE h L = 0 ↔ setB h L = true := by
  unfold setE
  cases setB h L <;> simp
theorem setE_one {h : Int} {L : List Int} (hs : ¬ setE h L = 0) : setE h L = 1 := by
  unfold setE at hs ⊢
  cases hx : setB h L
  · rfl
  · rw [hx] at hs; exact absurd rfl hs
end M
set_option maxRecDepth 100000 in
set_option maxHeartbeats 1000000 in
theorem each_nil (h : Int) (ao : Option Addr) (cap : Nat) (fn : Value) (w : World) :
    Calls Tryz.prog 69 #[.int .i64 h, .slice ao 0 cap, fn] w fun e w' => e = .returned (.tuple #[]) ∧ w' = w := by
  go_enter Tryz.func69, Tryz.ntmps69
  go_wp2
  refine bodyPost_ret (v := .tuple #[]) (by simp [results, Tryz.results69, go_sem]) rfl ⟨rfl, rfl⟩
set_option maxRecDepth 100000 in
theorem ms_new (w1 : World) : MS (w1.alloc (.cells #[.int .i64 0] 3)) w1.heap.size (fun k => k = w1.heap.size) ((([] : List Int).length : Nat) : Int) :=
  ⟨Bk.new _ _ _, rfl, fun k hk => by have e : k = w1.heap.size := hk; subst e; simp⟩
set_option maxRecDepth 100000 in
theorem rs_new (w1 : World) (s : Nat) : RS (w1.alloc (.cells #[.slice none 0 0] 22)) s w1.heap.size (fun k => k = w1.heap.size) [] :=
  ⟨_, Bk.new _ _ _, Qu.nil _ _ _ _, rfl, fun k hk => (by cases hk), fun k hk => by have e : k = w1.heap.size := hk; subst e; simp⟩
set_option maxRecDepth 100000 in
set_option maxHeartbeats 2000000 in
theorem stForks_any (h : Int) (L : List Int) (v : Value) (w : World) (hu : Us w v L) :
    Calls Tryz.prog 39 #[.int .i64 h, v] w fun e w' => ∃ v', e = .returned (.tuple #[v', .int .i64 (M.setE h L)]) ∧ Us w' v' (M.tfV h L) ∧ Below w.heap.size w w' := by
  obtain ⟨ao, cap, rfl, -⟩ := us_view hu
  unfold M.tfV
  by_cases hE : M.setE h L = 0
  · rw [if_pos hE, hE]
    have HS := hidq (M.setE_zero.1 hE)
    by_cases hn : L = []
    · subst hn
      rw [M.tree_nil, List.filter_nil]
      go_enter Tryz.func39, Tryz.ntmps39
      go_wp2_with (first | (go_at_call 68; refine (setCheck_any h _ _ _ hu).mono ?_; rintro e w1 ⟨rfl, hb1⟩; have B1 := hidq hb1; clear hb1) | (go_at_call 69; refine (each_nil h _ _ _ _).mono ?_; rintro e w' ⟨rfl, hw⟩; subst w'))
      go_ret2
      exact ⟨_, rfl, Us.nil _, below_one B1.out⟩
    · have HN := hidq hn
      have HU := hidq hu
      have hl0 : ¬ L.length = 0 := fun h => hn (List.eq_nil_of_length_eq_zero h)
      have hl1 : ((L.length : Int) == 0) = false := by rw [beq_eq_false_iff_ne]; omega
      have hl2 : ¬ (L.length : Int) = 0 := by omega
      skip
      go_enter Tryz.func39, Tryz.ntmps39
      go_wp2_with (first | (go_at_call 68; refine (setCheck_any h _ _ _ hu).mono ?_; rintro e w1 ⟨rfl, hb1⟩; have B1 := hidq hb1; clear hb1) | (go_at_call 69; refine (each_forks h L (w1.heap.size + 1) w1.heap.size (fun k => k = w1.heap.size) ao cap w _ HS.out HN.out HU.out (below_one (o := .cells #[.slice none 0 0] 22) B1.out) B1.out.size (by simp) (fun _ hk => hk) (rs_new w1 _) (by simp)).mono ?_; rintro e w2 ⟨rfl, ⟨T2, st2⟩, hg2⟩; obtain ⟨f2, k2, q2, -⟩ := st2; have c2 := k2.cell; generalize hX2 : List.filter (M.frk h L) (M.tree h L) = X2 at q2; have Q2 := hidq q2.us; obtain ⟨a2, d2, rfl, -⟩ := q2.form; have B2 := hidq ((below_one (o := .cells #[.slice none 0 0] 22) B1.out).grown hg2 (by have := B1.out.size; simp; omega) (fun k hk => by cases hk; exact B1.out.size)); clear q2 k2 hg2))
      go_ret2
      exact ⟨_, rfl, by rw [hX2]; exact Q2.out, B2.out⟩
  · rw [if_neg hE, M.setE_one hE]
    have hE1 := M.setE_one hE
    clear hE
    go_enter Tryz.func39, Tryz.ntmps39
    go_wp2_with (first | (go_at_call 68; refine (setCheck_any h _ _ _ hu).mono ?_; rintro e w1 ⟨rfl, hb1⟩; have B1 := hidq hb1; clear hb1))
    go_ret2
    exact ⟨_, rfl, Us.nil _, B1.out⟩

set_option maxRecDepth 100000 in
set_option maxHeartbeats 2000000 in
theorem stHang_any (h : Int) (L : List Int) (v : Value) (w : World) (hu : Us w v L) :
    Calls Tryz.prog 36 #[.int .i64 h, v] w fun e w' => ∃ v', e = .returned (.tuple #[v', .int .i64 (M.setE h L)]) ∧ Us w' v' (M.thV h L) ∧ Below w.heap.size w w' := by
  obtain ⟨ao, cap, rfl, -⟩ := us_view hu
  unfold M.thV
  by_cases hE : M.setE h L = 0
  · rw [if_pos hE, hE]
    have HS := hidq (M.setE_zero.1 hE)
    by_cases hn : L = []
    · subst hn
      rw [show (if ([] : List Int).length = 0 then ([1] : List Int) else (M.tree h []).flatMap (M.outk h [])) = [1] from rfl]
      go_enter Tryz.func36, Tryz.ntmps36
      go_wp2_with (first | (go_at_call 68; refine (setCheck_any h _ _ _ hu).mono ?_; rintro e w1 ⟨rfl, hb1⟩; have B1 := hidq hb1; clear hb1))
      go_ret2
      exact ⟨_, rfl, Us.one _ _ _ (by omega) (by omega), below_one B1.out⟩
    · have HN := hidq hn
      have HU := hidq hu
      have hl0 : ¬ L.length = 0 := fun h => hn (List.eq_nil_of_length_eq_zero h)
      have hl1 : ((L.length : Int) == 0) = false := by rw [beq_eq_false_iff_ne]; omega
      have hl2 : ¬ (L.length : Int) = 0 := by omega
      rw [if_neg hl0]
      go_enter Tryz.func36, Tryz.ntmps36
      go_wp2_with (first | (go_at_call 68; refine (setCheck_any h _ _ _ hu).mono ?_; rintro e w1 ⟨rfl, hb1⟩; have B1 := hidq hb1; clear hb1) | (go_at_call 69; refine (each_hang h L (w1.heap.size + 1) w1.heap.size (fun k => k = w1.heap.size) ao cap w _ HS.out HN.out HU.out (below_one (o := .cells #[.slice none 0 0] 22) B1.out) B1.out.size (by simp) (fun _ hk => hk) (rs_new w1 _) (by simp)).mono ?_; rintro e w2 ⟨rfl, ⟨T2, st2⟩, hg2⟩; obtain ⟨f2, k2, q2, -⟩ := st2; have c2 := k2.cell; generalize hX2 : List.flatMap (M.outk h L) (M.tree h L) = X2 at q2; have Q2 := hidq q2.us; obtain ⟨a2, d2, rfl, -⟩ := q2.form; have B2 := hidq ((below_one (o := .cells #[.slice none 0 0] 22) B1.out).grown hg2 (by have := B1.out.size; simp; omega) (fun k hk => by cases hk; exact B1.out.size)); clear q2 k2 hg2))
      go_ret2
      exact ⟨_, rfl, by rw [hX2]; exact Q2.out, B2.out⟩
  · rw [if_neg hE, M.setE_one hE]
    have hE1 := M.setE_one hE
    clear hE
    go_enter Tryz.func36, Tryz.ntmps36
    go_wp2_with (first | (go_at_call 68; refine (setCheck_any h _ _ _ hu).mono ?_; rintro e w1 ⟨rfl, hb1⟩; have B1 := hidq hb1; clear hb1))
    go_ret2
    exact ⟨_, rfl, Us.nil _, B1.out⟩

theorem M.bel_facts {h : Int} {L : List Int} {n : Int} (hE : M.belE h L n = 0) : M.setB h L = true ∧ M.okB h n = true ∧ (∀ k, k < (M.belV h L n).length → (M.belV h L n)[k]?.getD 0 ∈ L ∧ M.low h n ≤ (M.belV h L n)[k]?.getD 0 ∧ (M.belV h L n)[k]?.getD 0 ≤ M.high h n ∧ 0 ≤ (M.belV h L n)[k]?.getD 0 ∧ (M.belV h L n)[k]?.getD 0 < M.p2 h) := by
  obtain ⟨h1, h2⟩ := M.belE_iff.1 hE
  refine ⟨h1, h2, fun k hk => ?_⟩
  rw [M.belV_yes hE] at hk ⊢
  have hm : (M.belL (M.low h n) (M.high h n) L)[k]?.getD 0 ∈ M.belL (M.low h n) (M.high h n) L := by
    rw [List.getElem?_eq_getElem hk]; exact List.getElem_mem hk
  obtain ⟨a, b, c⟩ := M.belL_mem.1 hm
  have := (M.set_of h1).2.2.2.2.2 _ a
  exact ⟨a, b, c, this⟩
set_option maxRecDepth 100000 in
set_option maxHeartbeats 2000000 in
theorem stDown_any (h : Int) (L : List Int) (v : Value) (n : Int) (w : World) (hu : Us w v L) (h0 : 0 ≤ n) (h1 : n ≤ 18446744073709551615) :
    Calls Tryz.prog 41 #[.int .i64 h, v, .int .u64 n] w fun e w' => e = .returned (.tuple #[.int .u64 (M.dnV h L n), .int .i64 (M.dnE h L n)]) ∧ Below w.heap.size w w' := by
  unfold M.dnV
  by_cases hE : M.belE h L n = 0
  · by_cases hp : (M.belV h L n).length = 0
    · have e : M.dnE h L n = 4 := by unfold M.dnE; rw [if_pos hE, if_pos hp]
      rw [if_neg (by rw [e]; decide), e]
      have hpi : ((M.belV h L n).length : Int) = 0 := by omega
      clear hp
      go_enter Tryz.func41, Tryz.ntmps41
      go_wp2_with (first | (go_at_call 73; refine (bel_any h L _ n _ hu h0 h1).mono ?_; rintro e w1 ⟨v1, rfl, ho1, hb1⟩; have U1 := hidq (Us.of_own ho1 (fits_big (M.belV_fits).1)); obtain ⟨a1, c1, rfl, -⟩ := us_view U1.out; have B1 := hidq hb1; clear ho1 hb1))
      go_ret2
      exact ⟨rfl, B1.out⟩
    · have e : M.dnE h L n = 0 := by unfold M.dnE; rw [if_pos hE, if_neg hp]
      rw [if_pos e, e]
      obtain ⟨f1, f2, f3⟩ := M.bel_facts hE
      obtain ⟨s1, s2, -⟩ := M.set_of f1
      have hlp : 0 < (M.belV h L n).length := by omega
      have hbl := (M.belV_fits (h := h) (L := L) (n := n)).2
      have hp32 := M.p2_32 s2
      have hpp := M.p2_pos h
      obtain ⟨-, -, -, gx0, gx1⟩ := f3 0 hlp
      obtain ⟨-, -, -, gy0, gy1⟩ := f3 ((M.belV h L n).length - 1) (by omega)
      obtain ⟨x, hx⟩ : ∃ x, M.fstL (M.belV h L n) = x := ⟨_, rfl⟩
      obtain ⟨y, hy⟩ : ∃ y, M.lstL (M.belV h L n) = y := ⟨_, rfl⟩
      have hfx : (M.belV h L n)[0]?.getD 0 = x := hx
      have hfy : (M.belV h L n)[(M.belV h L n).length - 1]?.getD 0 = y := hy
      rw [hx, hy]
      rw [hfx] at gx0 gx1
      rw [hfy] at gy0 gy1
      have lx2 := M.leafE_yes s1 s2 gx1
      have ly2 := M.leafE_yes s1 s2 gy1
      obtain ⟨lx1, ox, -⟩ := M.leaf_facts gx0 lx2
      obtain ⟨ly1, oy, -⟩ := M.leaf_facts gy0 ly2
      have me := M.eBoth_ok ox oy
      have mv := M.meetV_ok ox oy
      have hx0 : 0 ≤ x := gx0
      have hx1 : x ≤ 18446744073709551615 := by omega
      have hy0 : 0 ≤ y := gy0
      have hy1 : y ≤ 18446744073709551615 := by omega
      have hp0 : 0 ≤ M.p2 h + x := by omega
      have hp1 : M.p2 h + x ≤ 18446744073709551615 := by omega
      have hp2 : 0 ≤ M.p2 h + y := by omega
      have hp3 : M.p2 h + y ≤ 18446744073709551615 := by omega
      have hpi : ¬ ((M.belV h L n).length : Int) = 0 := by omega
      have hpj : (((M.belV h L n).length : Int) == 0) = false := by rw [beq_eq_false_iff_ne]; omega
      have hi0 : (0 : Int) < (M.belV h L n).length := by omega
      have hi1 : ((M.belV h L n).length : Int) - 1 < (M.belV h L n).length := by omega
      have hi2 : ¬ ((M.belV h L n).length : Int) - 1 < 0 := by omega
      have hi3 : (0 : Int) ≤ ((M.belV h L n).length : Int) - 1 := by omega
      have hi4 : (((M.belV h L n).length : Int) - 1).toNat = (M.belV h L n).length - 1 := by omega
      have hi5 : IntKind.i64.wrap (((M.belV h L n).length : Int) - 1) = ((M.belV h L n).length : Int) - 1 := by rw [IntKind.wrap_i64]; omega
      have T1 := hidq trivial
      clear f1 f2 f3 hx hy gx0 gx1 gy0 gy1 ox oy hp
      go_enter Tryz.func41, Tryz.ntmps41
      go_wp2_with (first | (go_at_call 73; refine (bel_any h L _ n _ hu h0 h1).mono ?_; rw [hE]; rintro e w1 ⟨v1, rfl, ho1, hb1⟩; have U1 := Us.of_own ho1 (fits_big (M.belV_fits).1); obtain ⟨a1, c1, rfl, -, hv1⟩ := us_view U1; obtain ⟨b1, o1, rfl, -⟩ := hv1 hlp; have x1 := U1.cellAt 0 hlp; have y1 := U1.cellAt ((M.belV h L n).length - 1) (by omega); rw [hfx] at x1; rw [hfy] at y1; simp only [Nat.add_zero] at x1; have B1 := hidq hb1; clear ho1 hb1 hv1 U1) | (go_at_call 31; clear T1; refine (leaf_any h x _ hx0 hx1).mono ?_; rw [lx1, lx2]; rintro e w' ⟨rfl, hw⟩; subst w') | (go_at_call 31; refine (leaf_any h y _ hy0 hy1).mono ?_; rw [ly1, ly2]; rintro e w' ⟨rfl, hw⟩; subst w') | (go_at_call 74; refine (meet_any h _ _ _ hp0 hp1 hp2 hp3).mono ?_; rw [me, mv]; rintro e w' ⟨rfl, hw⟩; subst w'))
      go_ret2
      exact ⟨rfl, B1.out⟩
  · have e : M.dnE h L n = 1 := by unfold M.dnE; rw [if_neg hE]
    have e2 := (M.belV_no hE).2
    rw [if_neg (by rw [e]; decide), e]
    clear hE
    go_enter Tryz.func41, Tryz.ntmps41
    go_wp2_with (first | (go_at_call 73; refine (bel_any h L _ n _ hu h0 h1).mono ?_; rintro e w1 ⟨v1, rfl, ho1, hb1⟩; have U1 := hidq (Us.of_own ho1 (fits_big (M.belV_fits).1)); obtain ⟨a1, c1, rfl, -⟩ := us_view U1.out; have B1 := hidq hb1; clear ho1 hb1))
    go_ret2
    exact ⟨rfl, B1.out⟩
end Go.Proofs.YtmicgojojkkkhaaGreat
