/-
  The document's Many of stage 14: how many pairs a leaf has.
-/
import Derived.Test.YthmiekinjfaflaaGreatZA3
import Derived.Test.YthmiekinjfaflaaGreatZI1
import Derived.Test.YthmiekinjfaflaaGreatZSt0
namespace Go.Proofs.YthmiekinjfaflaaGreat
open Go.RowKit
end Go.Proofs.YthmiekinjfaflaaGreat
namespace Go.Proofs.YthmiekinjfaflaaGreat
open Go.RowKit
set_option maxRecDepth 100000 in
set_option maxHeartbeats 2000000 in
theorem rspairs_whole (H i y : Int) (m : Nat) (w : World) (L : M.Lf H y m) (hlE : M.leafE H i = 0) (hlV : M.leafV H i = y) (h0 : 0 ≤ i) (h1 : i ≤ 18446744073709551615) :
    Calls Tryz.prog 19 #[.int .i64 H, .int .i64 1, .int .u64 i] w fun e w' => ∃ v', e = .returned (.tuple #[v', .int .i64 0]) ∧ Ss w' v' (M.prS H 1 y) ∧ Below w.heap.size w w' := by
  have hm := L.hm
  obtain ⟨s1, s2, n0, -⟩ := M.ok_of L.ok
  have n1 : y ≤ 18446744073709551615 := by have := M.ok_lt L.ok; omega
  have hdy := L.dy
  have HCH := hidq (fun W => chain_any m y W n0 n1 (by rw [hdy, hm]))
  have HLF := hidq (fun W => rleaf_any H i W h0 h1)
  rw [hlE, hlV] at HLF
  have HLn := hidq (show (M.chainL y).length = m + 1 by rw [M.chainL_length, hdy]; omega)
  have HAt := hidq (fun k (hk : k < m + 1) => show (M.chainL y)[k]? = some (M.up y k) from M.chainL_at y k (by rw [hdy]; omega))
  have HPk := hidq (fun (k : Nat) (hk : k ≤ m) => show 0 ≤ M.up y k ∧ M.up y k ≤ 18446744073709551615 by
    have o := M.ok_up L.ok (show 0 ≤ ((k : Nat) : Int) by omega) (by rw [hdy]; omega)
    have := M.ok_lt o
    have := (M.ok_of o).2.2.1
    exact ⟨by omega, by omega⟩)
  have HPS := hidq (show M.prS H 1 y = (M.chainL y).map (fun n => (n, 0)) by unfold M.prS; rw [if_pos rfl])
  obtain ⟨Pn, hPn⟩ : ∃ Pn : Nat → List (Int × Int), ∀ k, Pn k = ((M.chainL y).take k).map (fun n => (n, 0)) := ⟨_, fun _ => rfl⟩
  have HP0 := hidq (show Pn 0 = [] by rw [hPn]; rfl)
  have HPM := hidq (show Pn (m + 1) = M.prS H 1 y by rw [hPn, HPS.out, List.take_of_length_le (by rw [HLn.out]; omega)])
  have HPY := hidq (fun k (hk : k < m + 1) => show Pn (k + 1) = Pn k ++ [(M.up y k, 0)] by
    rw [hPn, hPn, List.take_add_one, HAt.out k hk]; simp)
  have HPl := hidq (fun k => show (Pn k).length ≤ m + 1 by rw [hPn, List.length_map, List.length_take, HLn.out]; omega)
  have HM := hidq (show m ≤ 32 by omega)
  have HPin := hidq (fun x (hx : x ∈ Pn (m + 1)) => show 0 ≤ x.1 ∧ x.1 ≤ 18446744073709551615 ∧ 0 ≤ x.2 ∧ x.2 ≤ 18446744073709551615 by
    rw [hPn] at hx
    obtain ⟨n, hn, rfl⟩ := List.mem_map.1 hx
    obtain ⟨d, hd, rfl⟩ := (M.chain_mem L).1 (List.mem_of_mem_take hn)
    obtain ⟨z1, z2⟩ := HPk.out d hd
    exact ⟨z1, z2, by dsimp only; omega, by dsimp only; omega⟩)
  clear hPn hlE hlV n0 n1 s1 s2 hm hdy L
  generalize M.chainL y = CL at *
  go_enter Tryz.func19, Tryz.ntmps19
  go_wp2_with (first | (go_at_call 32; refine (HLF.out _).mono ?_; rintro e w' ⟨rfl, hw⟩; subst w') | (go_at_call 33; refine (HCH.out _).mono ?_; rintro e w1 ⟨g, cap, rfl, own1, hb1⟩; have O1 := hidq own1; have B1 := hidq hb1; have C1 := hidq (own_cap own1); clear own1 hb1))
  go_loopw [45, 11] (fun i x wr => ∃ k : Nat, k ≤ m + 1 ∧ i = .int .i64 k ∧ wr.ownsRow w1.heap.size 46 2 x (Pn k).length (elSub.cells (Pn k)) ∧ Below w1.heap.size w1 wr) (fun i _ _ => m + 1 - (intOf i).toNat)
  case atStart => exact ⟨0, by omega, rfl, by rw [HP0.out]; exact World.ownsRow_nil _ _ _ _, Below.refl _ _⟩
  case round =>
    rename_i wr
    obtain ⟨k, hk, rfl, hown, hb⟩ := hrel
    have HO := hidq hown
    have HB := hidq hb
    have hM := HM.out
    by_cases hkn : k < m + 1
    · have hki : (k : Int) < (m : Int) + 1 := by omega
      have hki2 : (k : Int) < ((m + 1 : Nat) : Int) := by omega
      have ci := own_cellu (own_kept O1.out hb) (HAt.out k hkn)
      obtain ⟨hn0, hn1⟩ := HPk.out k (by omega)
      have hpy := HPY.out k hkn
      have hPs := HPl.out k
      generalize M.up y k = n at *
      have HPY' := hidq hpy
      clear hown hb hpy
      go_wp2_with (first | (at_builtin; refine wpList_append_sl (E := elSub) rfl _ _ rfl w1.heap.size _ _ _ rfl (own_kept HO.out (below_one (o := (.cells #[.int .u64 n, .int .u64 0] 46)) (Below.refl wr.heap.size wr))) _ [(n, 0)] rfl (Ss.oneq _ _ n 0 _ (by first | rfl | simp) ⟨hn0, hn1, by omega, by omega⟩) (by simp only [List.length_cons, List.length_nil]; omega) (by have := HB.out.size; simp; omega) ?_; intro v7 w7 hown7 hgrow7; have O7 := hidq hown7; have B7 := hidq ((below_one (o := (.cells #[.int .u64 n, .int .u64 0] 46)) HB.out).grown hgrow7 (by have := HB.out.size; simp; omega) (fun q hq => (HO.out.lt q hq).1)); clear hown7 hgrow7))
      go_roundw
      case rel => exact ⟨k + 1, by omega, by go_num, by rw [HPY'.out, List.length_append]; exact O7.out, B7.out⟩
      case measure => simp [intOf]; omega
    · obtain rfl : k = m + 1 := by omega
      have hki : ¬ ((m + 1 : Nat) : Int) < ((m + 1 : Nat) : Int) := by omega
      have HS := hidq (own_form2 hown HPin.out)
      clear hown hb
      go_wp2
      go_ret2
      exact ⟨_, rfl, by rw [← HPM.out]; exact HS.out, below_trans B1.out HB.out⟩
namespace M
variable {h k y : Int} {m : Nat}
def prP (h k : Int) (s : Int × Int) : Bool := decide (k = 2) || useB h s.1 s.2
/-- what is told after i tops, and q pairs of the next one -/
def prG (h k y : Int) (m i q : Nat) : List (Int × Int) := (1, 0) :: ((((List.range i).flatMap (prT y m)).filter (prP h k)) ++ ((List.range q).map fun r => (up y (i : Nat), oth (up y ((i + 1 + r : Nat) : Int)))).filter (prP h k))
theorem prG_next (i : Nat) : prG h k y m i (m - i) = prG h k y m (i + 1) 0 := by
  unfold prG
  rw [List.range_succ, List.flatMap_append, List.filter_append]
  simp only [List.flatMap_cons, List.flatMap_nil, List.append_nil, List.range_zero, List.map_nil, List.filter_nil]
  rfl
theorem prG_step (i q : Nat) : prG h k y m i (q + 1) = prG h k y m i q ++ (if prP h k (up y (i : Nat), oth (up y ((i + 1 + q : Nat) : Int))) = true then [(up y (i : Nat), oth (up y ((i + 1 + q : Nat) : Int)))] else []) := by
  unfold prG
  rw [List.range_succ, List.map_append, List.filter_append, List.map_singleton, List.filter_cons, List.filter_nil, List.cons_append, List.append_assoc]
theorem prG_last (L : Lf h y m) (hk : k ≠ 1) : prG h k y m (m + 1) 0 = prS h k y := by
  have hm := L.hm
  unfold prG prS prD
  rw [if_neg hk, show h.toNat = m by omega]
  simp only [List.range_zero, List.map_nil, List.filter_nil, List.append_nil]
  rfl
theorem prT_len (i : Nat) : ((List.range i).flatMap (prT y m)).length ≤ i * m := by
  induction i with
  | zero => simp
  | succ i ih =>
    rw [List.range_succ, List.flatMap_append, List.length_append]
    simp only [List.flatMap_cons, List.flatMap_nil, List.append_nil]
    have e : (prT y m i).length = m - i := by unfold prT; simp
    rw [e, Nat.succ_mul]
    omega
theorem prG_len (i q : Nat) : (prG h k y m i q).length ≤ i * m + q + 1 := by
  unfold prG
  rw [List.length_cons, List.length_append]
  have h1 := List.length_filter_le (prP h k) ((List.range i).flatMap (prT y m))
  have h2 := List.length_filter_le (prP h k) ((List.range q).map fun r => (up y (i : Nat), oth (up y ((i + 1 + r : Nat) : Int))))
  rw [List.length_map, List.length_range] at h2
  have := prT_len (y := y) (m := m) i
  omega
end M
end Go.Proofs.YthmiekinjfaflaaGreat
namespace Go.Proofs.YthmiekinjfaflaaGreat
open Go.RowKit
theorem two_behind {W W' : World} {u v : Value} {t : TypeId} (hb : Below (W.alloc (.cells #[u, v] t)).heap.size (W.alloc (.cells #[u, v] t)) W') : W'.cell? ⟨W.heap.size, 0, none⟩ = some u ∧ W'.cell? ⟨W.heap.size, 1, none⟩ = some v := by
  obtain ⟨b, -⟩ := bcell hb
  rw [b _ _ (by simp), b _ _ (by simp), cell_at, cell_at]
  exact ⟨rfl, rfl⟩
set_option maxRecDepth 100000 in
set_option maxHeartbeats 2000000 in
theorem rspairs_some (H k i y : Int) (m : Nat) (w : World) (L : M.Lf H y m) (hk : k = 2 ∨ k = 3) (hlE : M.leafE H i = 0) (hlV : M.leafV H i = y) (h0 : 0 ≤ i) (h1 : i ≤ 18446744073709551615) :
    Calls Tryz.prog 19 #[.int .i64 H, .int .i64 k, .int .u64 i] w fun e w' => ∃ v', e = .returned (.tuple #[v', .int .i64 0]) ∧ Ss w' v' (M.prS H k y) ∧ Below w.heap.size w w' := by
  have hm := L.hm
  obtain ⟨s1, s2, n0, -⟩ := M.ok_of L.ok
  have n1 : y ≤ 18446744073709551615 := by have := M.ok_lt L.ok; omega
  have hdy := L.dy
  have HCH := hidq (fun W => chain_any m y W n0 n1 (by rw [hdy, hm]))
  have HLF := hidq (fun W => rleaf_any H i W h0 h1)
  rw [hlE, hlV] at HLF
  have HAt := hidq (fun k (hk : k < m + 1) => show (M.chainL y)[k]? = some (M.up y k) from M.chainL_at y k (by rw [hdy]; omega))
  have HOk := hidq (fun (k : Nat) (hk : k ≤ m) => M.ok_up L.ok (show 0 ≤ ((k : Nat) : Int) by omega) (by rw [hdy]; omega))
  have HPk := hidq (fun (k : Nat) (hk : k ≤ m) => show 0 ≤ M.up y k ∧ M.up y k ≤ 18446744073709551615 by
    have o := HOk.out k hk
    have := M.ok_lt o
    have := (M.ok_of o).2.2.1
    exact ⟨by omega, by omega⟩)
  have HW := hidq (fun (d e : Nat) (hd : d < e) (he : e ≤ m) => show M.othV H (M.up y (e : Nat)) = M.oth (M.up y (e : Nat)) ∧ M.othE H (M.up y (e : Nat)) = 0 ∧ 0 ≤ M.oth (M.up y (e : Nat)) ∧ M.oth (M.up y (e : Nat)) ≤ 18446744073709551615 ∧ M.useV H (M.up y (d : Nat)) (M.oth (M.up y (e : Nat))) = M.useB H (M.up y (d : Nat)) (M.oth (M.up y (e : Nat))) by
    obtain ⟨a1, -, -, -, a5, a6, a7⟩ := M.way_facts L hd he
    have ok1 := HOk.out e he
    have ok2 : M.okB H (M.oth (M.up y (e : Nat))) = true := ((M.sub_of a1).2.resolve_left a6).2.1
    have ne1 : M.up y (e : Nat) ≠ 1 := fun hh => by
      rw [hh] at a5
      have : M.dep (M.oth 1) = 0 := by decide +kernel
      omega
    have e0 : M.othE H (M.up y (e : Nat)) = 0 := by unfold M.othE; rw [if_pos ok1, if_neg ne1]
    have := M.ok_lt ok2
    have := (M.ok_of ok2).2.2.1
    exact ⟨by unfold M.othV; rw [if_pos e0], e0, by omega, by omega, by unfold M.useV; rw [a1]; rfl⟩)
  have HM := hidq (show m ≤ 32 by omega)
  have HG0 := hidq (show M.prG H k y m 0 0 = [(1, 0)] from rfl)
  have HGn := hidq (fun i => M.prG_next (h := H) (k := k) (y := y) (m := m) i)
  have HGs := hidq (fun i q => M.prG_step (h := H) (k := k) (y := y) (m := m) i q)
  have HGl := hidq (fun i q => M.prG_len (h := H) (k := k) (y := y) (m := m) i q)
  have HGm := hidq (M.prG_last (k := k) L (by omega))
  have HGin := hidq (fun x (hx : x ∈ M.prS H k y) => show 0 ≤ x.1 ∧ x.1 ≤ 18446744073709551615 ∧ 0 ≤ x.2 ∧ x.2 ≤ 18446744073709551615 by
    obtain ⟨a1, -⟩ := M.prS_in L (show M.kB k = true by rcases hk with rfl | rfl <;> rfl) x hx
    obtain ⟨b1, b2⟩ := M.sub_of a1
    have := M.ok_lt b1
    have := (M.ok_of b1).2.2.1
    rcases b2 with b2 | b2
    · rw [b2]; omega
    · have := M.ok_lt b2.2.1
      have := (M.ok_of b2.2.1).2.2.1
      omega)
  have UU := hidq (fun I J W h0 h1 h2 h3 => ruseful_any H I J W h0 h1 h2 h3)
  have hk1 : ¬ k < 1 := by omega
  have hk3 : ¬ 3 < k := by omega
  have hkb : (k == 1) = false := by rw [beq_eq_false_iff_ne]; omega
  obtain ⟨kb, hk2⟩ : ∃ kb : Bool, (k == 2) = kb := ⟨_, rfl⟩
  have HK2 := hidq (show decide (k = 2) = kb from hk2)
  generalize M.prG H k y m = G at *
  clear hlE hlV n0 n1 s1 s2 hm hdy L hk
  generalize M.prS H k y = PS at *
  generalize M.chainL y = CL at *
  go_enter Tryz.func19, Tryz.ntmps19
  go_wp2_with (first | (go_at_call 32; refine (HLF.out _).mono ?_; rintro e w' ⟨rfl, hw⟩; subst w') | (go_at_call 33; refine (HCH.out _).mono ?_; rintro e w1 ⟨g, cap, rfl, own1, hb1⟩; have O1 := hidq own1; have B1 := hidq hb1; have C1 := hidq (own_cap own1); clear own1 hb1) | (at_builtin; refine wpList_append_sl (E := elSub) rfl _ _ rfl w1.heap.size _ 0 [] rfl (World.ownsRow_nil _ _ _ _) _ [(1, 0)] rfl (Ss.oneq _ _ 1 0 _ (by first | rfl | simp) (by omega)) (by simp only [List.length_cons, List.length_nil]; omega) (by simp) ?_; intro v2 w2 hown2 hgrow2; have O2 := hidq hown2; have B2 := hidq ((below_one (o := (.cells #[.int .u64 1, .int .u64 0] 46)) (Below.refl w1.heap.size w1)).grown hgrow2 (by simp) (fun q hq => by first | exact nomatch hq | cases hq | exact ((World.ownsRow_nil w1 w1.heap.size 46 2).lt q hq).1)); clear hown2 hgrow2))
  go_loopw [62, 11] (fun a x wr => ∃ i : Nat, i ≤ m + 1 ∧ a = .int .i64 i ∧ wr.ownsRow w1.heap.size 46 2 x (G i 0).length (elSub.cells (G i 0)) ∧ Below w1.heap.size w1 wr) (fun a _ _ => m + 1 - (intOf a).toNat)
  case atStart => exact ⟨0, by omega, rfl, by rw [HG0.out]; exact O2.out, B2.out⟩
  case round =>
    rename_i wr
    obtain ⟨i, hi, rfl, hown, hb⟩ := hrel
    have HO := hidq hown
    have BX := hidq hb
    obtain ⟨C1a, C1b⟩ := C1.out
    have hM := HM.out
    by_cases hin : i < m + 1
    · have hii : (i : Int) < (m : Int) + 1 := by omega
      have hii2 : (i : Int) < ((m + 1 : Nat) : Int) := by omega
      have ci := own_cellu (own_kept O1.out hb) (HAt.out i hin)
      obtain ⟨p1, p2⟩ := HPk.out i (by omega)
      obtain ⟨I, hI⟩ : ∃ I, M.up y i = I := ⟨_, rfl⟩
      rw [hI] at ci p1 p2
      have HI := hidq hI
      clear hI
      have hwi : IntKind.i64.wrap ((i : Int) + 1) = (i : Int) + 1 := by rw [IntKind.wrap_i64]; omega
      have hit : ((i : Int) + 1).toNat = i + 1 := by omega
      have hile : i + 1 ≤ m + 1 := by omega
      have hile2 : (i : Int) + 1 ≤ (m : Int) + 1 := by omega
      clear hb hown
      by_cases hcap : cap = i + 1
      · subst hcap
        go_wp2
        go_loopw [72, 11] (fun a x wr => ∃ q : Nat, q ≤ m - i ∧ a = .int .i64 q ∧ wr.ownsRow w1.heap.size 46 2 x (G i q).length (elSub.cells (G i q)) ∧ Below w1.heap.size w1 wr) (fun a _ _ => m - i - (intOf a).toNat)
        case atStart => exact ⟨0, by omega, rfl, HO.out, BX.out⟩
        case round =>
          rename_i wr2
          obtain ⟨q, hq, rfl, hownq, hbq⟩ := hrel
          have HQ := hidq hownq
          have HBQ := hidq hbq
          by_cases hqn : q < m - i
          · exact absurd hqn (by omega)
          · obtain rfl : q = m - i := by omega
            have hqi2 : ¬ ((m - i : Nat) : Int) < ((m + 1 - (i + 1) : Nat) : Int) := by omega
            have hqi3 : ¬ (m - i) < m + 1 - (i + 1) := by omega
            clear hbq hownq
            go_wp2
            go_roundw
            case rel => exact ⟨i + 1, by omega, by go_num, by rw [← HGn.out]; exact HQ.out, HBQ.out⟩
            case measure => simp [intOf]; omega
      · have hcap2 : ¬ cap - (i + 1) = 0 := by omega
        go_wp2
        go_loopw [72, 11] (fun a x wr => ∃ q : Nat, q ≤ m - i ∧ a = .int .i64 q ∧ wr.ownsRow w1.heap.size 46 2 x (G i q).length (elSub.cells (G i q)) ∧ Below w1.heap.size w1 wr) (fun a _ _ => m - i - (intOf a).toNat)
        case atStart => exact ⟨0, by omega, rfl, HO.out, BX.out⟩
        case round =>
          rename_i wr2
          obtain ⟨q, hq, rfl, hownq, hbq⟩ := hrel
          have HQ := hidq hownq
          have HBQ := hidq hbq
          by_cases hqn : q < m - i
          · have hqi : (q : Int) < (m : Int) - i := by omega
            have hqi2 : (q : Int) < ((m + 1 - (i + 1) : Nat) : Int) := by omega
            have hqi3 : q < m + 1 - (i + 1) := by omega
            have cq := own_cellu (own_kept O1.out hbq) (HAt.out (i + 1 + q) (by omega))
            obtain ⟨p3, p4⟩ := HPk.out (i + 1 + q) (by omega)
            obtain ⟨o1, o2, o3, o4, o5⟩ := HW.out i (i + 1 + q) (by omega) (by omega)
            have OC := hidq (fun W => rother_any H (M.up y ((i + 1 + q : Nat) : Int)) W p3 p4)
            rw [o1, o2] at OC
            have UC := hidq (fun W => UU.out (M.up y i) (M.oth (M.up y ((i + 1 + q : Nat) : Int))) W (by rw [HI.out]; omega) (by rw [HI.out]; omega) o3 o4)
            rw [o5] at UC
            have hgs := HGs.out i q
            rw [show M.prP H k (M.up y i, M.oth (M.up y ((i + 1 + q : Nat) : Int))) = (decide (k = 2) || M.useB H (M.up y i) (M.oth (M.up y ((i + 1 + q : Nat) : Int)))) from rfl, HK2.out] at hgs
            rw [HI.out] at UC hgs
            have hgl := HGl.out i q
            have hgl2 : i * m ≤ 32 * 32 := Nat.mul_le_mul (by omega) hM
            clear o1 o2 o5
            generalize M.subE H I (M.oth (M.up y ((i + 1 + q : Nat) : Int))) = sE at *
            obtain ⟨r, hr⟩ : ∃ r, M.useB H I (M.oth (M.up y ((i + 1 + q : Nat) : Int))) = r := ⟨_, rfl⟩
            rw [hr] at UC hgs
            clear hr
            generalize M.up y ((i + 1 + q : Nat) : Int) = N at *
            generalize M.oth N = J at *
            have HGS := hidq hgs
            clear hownq hbq hgs
            cases kb with
            | true =>
              go_wp2_with (first | (go_at_call 34; refine (OC.out _).mono ?_; rintro e w' ⟨rfl, hw⟩; subst w') | (go_at_call 35; refine (UC.out _).mono ?_; rintro e w5 ⟨rfl, hb5⟩; obtain ⟨tb1, tb2⟩ := two_behind hb5; have B5 := hidq (below_trans (below_one (o := (.cells #[.int .u64 I, .int .u64 J] 46)) HBQ.out) hb5); have O5 := hidq (own_kept HQ.out (below_trans (below_one (o := (.cells #[.int .u64 I, .int .u64 J] 46)) (Below.refl _ _)) hb5)); clear hb5) | (at_builtin; refine wpList_append_sl (E := elSub) rfl _ _ rfl w1.heap.size _ _ _ rfl (own_kept O5.out (below_one (o := (.cells #[.int .u64 I, .int .u64 J] 46)) (Below.refl w5.heap.size w5))) _ [(I, J)] rfl (Ss.oneq _ _ I J _ (by first | rfl | simp) ⟨p1, p2, o3, o4⟩) (by simp only [List.length_cons, List.length_nil]; omega) (by have := B5.out.size; simp; omega) ?_; intro v7 w7 hown7 hgrow7; have O7 := hidq hown7; have B7 := hidq ((below_one (o := (.cells #[.int .u64 I, .int .u64 J] 46)) B5.out).grown hgrow7 (by have := B5.out.size; simp; omega) (fun q hq => (O5.out.lt q hq).1)); clear hown7 hgrow7))
              go_roundw
              case rel => exact ⟨q + 1, by omega, by go_num, by rw [HGS.out, if_pos (show (true || r) = true from rfl), List.length_append]; exact O7.out, B7.out⟩
              case measure => simp [intOf]; omega
            | false =>
              cases r with
              | true =>
                go_wp2_with (first | (go_at_call 34; refine (OC.out _).mono ?_; rintro e w' ⟨rfl, hw⟩; subst w') | (go_at_call 35; refine (UC.out _).mono ?_; rintro e w5 ⟨rfl, hb5⟩; obtain ⟨tb1, tb2⟩ := two_behind hb5; have B5 := hidq (below_trans (below_one (o := (.cells #[.int .u64 I, .int .u64 J] 46)) HBQ.out) hb5); have O5 := hidq (own_kept HQ.out (below_trans (below_one (o := (.cells #[.int .u64 I, .int .u64 J] 46)) (Below.refl _ _)) hb5)); clear hb5) | (at_builtin; refine wpList_append_sl (E := elSub) rfl _ _ rfl w1.heap.size _ _ _ rfl (own_kept O5.out (below_one (o := (.cells #[.int .u64 I, .int .u64 J] 46)) (Below.refl w5.heap.size w5))) _ [(I, J)] rfl (Ss.oneq _ _ I J _ (by first | rfl | simp) ⟨p1, p2, o3, o4⟩) (by simp only [List.length_cons, List.length_nil]; omega) (by have := B5.out.size; simp; omega) ?_; intro v7 w7 hown7 hgrow7; have O7 := hidq hown7; have B7 := hidq ((below_one (o := (.cells #[.int .u64 I, .int .u64 J] 46)) B5.out).grown hgrow7 (by have := B5.out.size; simp; omega) (fun q hq => (O5.out.lt q hq).1)); clear hown7 hgrow7))
                go_roundw
                case rel => exact ⟨q + 1, by omega, by go_num, by rw [HGS.out, if_pos (show (false || true) = true from rfl), List.length_append]; exact O7.out, B7.out⟩
                case measure => simp [intOf]; omega
              | false =>
                go_wp2_with (first | (go_at_call 34; refine (OC.out _).mono ?_; rintro e w' ⟨rfl, hw⟩; subst w') | (go_at_call 35; refine (UC.out _).mono ?_; rintro e w5 ⟨rfl, hb5⟩; obtain ⟨tb1, tb2⟩ := two_behind hb5; have B5 := hidq (below_trans (below_one (o := (.cells #[.int .u64 I, .int .u64 J] 46)) HBQ.out) hb5); have O5 := hidq (own_kept HQ.out (below_trans (below_one (o := (.cells #[.int .u64 I, .int .u64 J] 46)) (Below.refl _ _)) hb5)); clear hb5))
                go_roundw
                case rel => exact ⟨q + 1, by omega, by go_num, by rw [HGS.out, if_neg (by decide), List.append_nil]; exact O5.out, B5.out⟩
                case measure => simp [intOf]; omega
          · obtain rfl : q = m - i := by omega
            have hqi2 : ¬ ((m - i : Nat) : Int) < ((m + 1 - (i + 1) : Nat) : Int) := by omega
            have hqi3 : ¬ (m - i) < m + 1 - (i + 1) := by omega
            clear hbq hownq
            go_wp2
            go_roundw
            case rel => exact ⟨i + 1, by omega, by go_num, by rw [← HGn.out]; exact HQ.out, HBQ.out⟩
            case measure => simp [intOf]; omega
    · obtain rfl : i = m + 1 := by omega
      have hii : ¬ ((m + 1 : Nat) : Int) < ((m + 1 : Nat) : Int) := by omega
      rw [HGm.out] at hown
      have HS := hidq (own_form2 hown HGin.out)
      clear hown hb
      go_wp2
      go_ret2
      exact ⟨_, rfl, HS.out, below_trans B1.out BX.out⟩
end Go.Proofs.YthmiekinjfaflaaGreat
namespace Go.Proofs.YthmiekinjfaflaaGreat
open Go.RowKit
set_option maxRecDepth 100000 in
theorem rspairs_any (h k i : Int) (w : World) (h0 : 0 ≤ i) (h1 : i ≤ 18446744073709551615) :
    Calls Tryz.prog 19 #[.int .i64 h, .int .i64 k, .int .u64 i] w fun e w' => ∃ v', e = .returned (.tuple #[v', .int .i64 (M.prsE h k i)]) ∧ Ss w' v' (M.prsL h k i) ∧ Below w.heap.size w w' := by
  have HLF := hidq (fun W => rleaf_any h i W h0 h1)
  unfold M.prsE M.prsL
  by_cases hl : M.leafE h i = 0
  · rw [decide_eq_true hl]
    cases hk : M.kB k with
    | true =>
      have L := M.lf_of hl h0
      have hlV := (M.leaf_facts h0 hl).1
      simp only [Bool.and_self, if_true]
      rcases M.kB_of hk with rfl | hk2
      · exact rspairs_whole h i _ _ w L hl hlV h0 h1
      · exact rspairs_some h k i _ _ w L hk2 hl hlV h0 h1
    | false =>
      have hk' : k < 1 ∨ ¬ k < 1 ∧ 3 < k := by
        unfold M.kB at hk
        simp only [Bool.and_eq_false_iff, decide_eq_false_iff_not] at hk
        omega
      rw [hl] at HLF
      clear hl hk
      generalize M.leafV h i = lv at *
      rcases hk' with hk1 | ⟨hk1, hk2⟩ <;>
      · go_enter Tryz.func19, Tryz.ntmps19
        go_wp2_with (first | (go_at_call 32; refine (HLF.out _).mono ?_; rintro e w' ⟨rfl, hw⟩; subst w'))
        go_ret2
        exact ⟨_, rfl, Sl.nil _ _, Below.refl _ _⟩
  · rw [decide_eq_false hl, Bool.and_false]
    obtain ⟨E, hE⟩ : ∃ E, M.leafE h i = E := ⟨_, rfl⟩
    rw [hE] at hl HLF
    have hlb : (E == 0) = false := by rw [beq_eq_false_iff_ne]; exact hl
    clear hE
    generalize M.leafV h i = lv at *
    go_enter Tryz.func19, Tryz.ntmps19
    go_wp2_with (first | (go_at_call 32; refine (HLF.out _).mono ?_; rintro e w' ⟨rfl, hw⟩; subst w'))
    go_ret2
    exact ⟨_, rfl, Sl.nil _ _, Below.refl _ _⟩
end Go.Proofs.YthmiekinjfaflaaGreat
namespace Go.Proofs.YthmiekinjfaflaaGreat
namespace M
variable {h k i j : Int}
theorem prs_yes (hE : prsE h k i = 0) : kB k = true ∧ leafE h i = 0 ∧ prsL h k i = prS h k (p2 h + i) := by
  unfold prsE at hE
  by_cases hc : (kB k && decide (leafE h i = 0)) = true
  · have : prsL h k i = prS h k (p2 h + i) := by unfold prsL; rw [if_pos hc]
    simp only [Bool.and_eq_true, decide_eq_true_eq] at hc
    exact ⟨hc.1, hc.2, this⟩
  · rw [if_neg hc] at hE
    omega
theorem prs_no (hE : prsE h k i ≠ 0) : prsE h k i = 1 ∧ prsL h k i = [] := by
  unfold prsE at hE ⊢
  unfold prsL
  split at hE
  · omega
  · rename_i hc
    rw [if_neg hc, if_neg hc]
    exact ⟨rfl, rfl⟩
/-- Has: of whichever leaf, of a leaf's pair -/
theorem prs_has (h0 : 0 ≤ i) (j0 : 0 ≤ j) (hE : prsE h k i = 0) (hj : leafE h j = 0) {s : Int × Int} (hs : s ∈ prsL h k i) : shE h s.1 s.2 j = 0 ∧ shV h s.1 s.2 j = (abv s.1 (p2 h + j) && (decide (s.2 = 0) || !abv s.2 (p2 h + j))) := by
  obtain ⟨a1, a2, a3⟩ := prs_yes hE
  rw [a3] at hs
  obtain ⟨b1, -⟩ := prS_in (lf_of a2 h0) a1 s hs
  obtain ⟨c1, c2⟩ := sh_yes b1 hj
  exact ⟨c1, by rw [c2, inS_doc b1 j0 hj]⟩
/-- a leaf is in each of its pairs, and each may be of the scheme -/
theorem prs_in (h0 : 0 ≤ i) (hE : prsE h k i = 0) {s : Int × Int} (hs : s ∈ prsL h k i) : shE h s.1 s.2 i = 0 ∧ shV h s.1 s.2 i = true ∧ myE h k s.1 s.2 = 0 ∧ myV h k s.1 s.2 = true := by
  obtain ⟨a1, a2, a3⟩ := prs_yes hE
  obtain ⟨c1, c2⟩ := prs_has h0 h0 hE a2 hs
  rw [a3] at hs
  obtain ⟨b1, b2, b3, b4⟩ := prS_in (lf_of a2 h0) a1 s hs
  refine ⟨c1, ?_, by unfold myE; rw [a1, b1]; rfl, b2⟩
  rw [c2, b3]
  rcases b4 with b4 | b4 <;> simp [b4]
theorem prs_sub (h0 : 0 ≤ i) (hE : prsE h k i = 0) {s : Int × Int} (hs : s ∈ prsL h k i) : subB h s.1 s.2 = true := by
  obtain ⟨a1, a2, a3⟩ := prs_yes hE
  rw [a3] at hs
  exact (prS_in (lf_of a2 h0) a1 s hs).1
/-- a pair without a J: one is in it just if it is among one's pairs -/
theorem prs_zero (j0 : 0 ≤ j) (hF : prsE h k j = 0) {I : Int} (hmy : myV h k I 0 = true) : ((I, 0) ∈ prsL h k j ↔ shV h I 0 j = true) := by
  obtain ⟨a1, a2, a3⟩ := prs_yes hF
  have hs : subB h I 0 = true := by unfold myV at hmy; simp only [Bool.and_eq_true] at hmy; exact hmy.1.2
  rw [a3, prS_zero (lf_of a2 j0) a1 hmy, (sh_yes hs a2).2, inS_doc hs j0 a2]
  simp
theorem sub_fit14 {h I J : Int} (hs : subB h I J = true) : 0 ≤ I ∧ I ≤ 18446744073709551615 ∧ 0 ≤ J ∧ J ≤ 18446744073709551615 := by
  have hI := (sub_of hs).1
  have k1 := (ok_of hI).2.2.1
  have k2 := ok_lt hI
  by_cases hJ : J = 0
  · omega
  · have hK := (sub_in hs hJ).1
    have j1 := (ok_of hK).2.2.1
    have j2 := ok_lt hK
    omega
theorem prs_nodup (h0 : 0 ≤ i) : (prsL h k i).Nodup := by
  by_cases hE : prsE h k i = 0
  · obtain ⟨a1, a2, a3⟩ := prs_yes hE
    rw [a3]
    exact prS_nodup (lf_of a2 h0)
  · rw [(prs_no hE).2]
    exact List.nodup_nil
theorem prs_length (h0 : 0 ≤ i) (hE : prsE h k i = 0) : ((prsL h k i).length : Int) = pmV h k ∧ pmE h k = 0 ∧ 1 ≤ h ∧ h ≤ 32 := by
  obtain ⟨a1, a2, a3⟩ := prs_yes hE
  have L := lf_of a2 h0
  refine ⟨by rw [a3]; exact prS_length L a1, by unfold pmE; rw [a1, htB_lf L]; rfl, ?_⟩
  obtain ⟨s1, s2, -⟩ := ok_of L.ok
  exact ⟨s1, s2⟩
end M
end Go.Proofs.YthmiekinjfaflaaGreat
