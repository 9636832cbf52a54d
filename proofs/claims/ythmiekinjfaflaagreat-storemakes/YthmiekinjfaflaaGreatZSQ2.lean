/-
  What the program's store.upward and store.beside answer of a leaf's node. Conditions: the node is a leaf's.
-/
import Derived.Test.YthmiekinjfaflaaGreatZSQ8
import Derived.Test.YthmiekinjfaflaaGreatZSt2
import Derived.Test.YthmiekinjfaflaaGreatZXD0
namespace Go.Proofs.YthmiekinjfaflaaGreat
open Go.RowKit
theorem M.my_way {H k y : Int} {m : Nat} (L : M.Lf H y m) (hk : k = 2 ∨ k = 3) {d e : Nat} (hd : d < e) (he : e ≤ m) : M.myV H k (M.up y (d : Nat)) (M.oth (M.up y (e : Nat))) = M.prP H k (M.up y (d : Nat), M.oth (M.up y (e : Nat))) := by
  obtain ⟨a, -, -, -, -, b, -⟩ := M.way_facts L hd he
  unfold M.myV M.prP
  rw [a, if_neg (by omega)]
  rcases hk with rfl | rfl
  · simp [b, M.kB]
  · simp [M.kB]
set_option maxRecDepth 100000 in
set_option maxHeartbeats 2000000 in
theorem supward_any (H y : Int) (m : Nat) (w : World) (L : M.Lf H y m) :
    Calls Tryz.prog 26 #[.int .i64 H, .int .u64 y] w fun e w' => ∃ v', e = .returned v' ∧ Ss w' v' (M.prS H 1 y) ∧ Below w.heap.size w w' := by
  have hm := L.hm
  obtain ⟨s1, s2, n0, -⟩ := M.ok_of L.ok
  have n1 : y ≤ 18446744073709551615 := by have := M.ok_lt L.ok; omega
  have hdy := L.dy
  have HUk := hidq (fun (k : Nat) (hk : k ≤ m) W => (show Calls Tryz.prog 47 #[.int .i64 H, .int .u64 y, .int .i64 (k : Int)] W fun e w' => e = .returned (.tuple #[.int .u64 (M.up y k), .int .i64 0]) ∧ w' = W by
    have := up_any H y (k : Int) W (by omega) n1
    have hE : M.upE H y (k : Int) = 0 := by unfold M.upE; rw [if_pos L.ok, if_pos ⟨by omega, by rw [hdy]; omega⟩]
    rwa [show M.upV H y (k : Int) = M.up y k by unfold M.upV; rw [if_pos hE], hE] at this))
  have HLn := hidq (show (M.chainL y).length = m + 1 by rw [M.chainL_length, hdy]; omega)
  have HAt := hidq (fun k (hk : k < m + 1) => show (M.chainL y)[k]? = some (M.up y k) from M.chainL_at y k (by rw [hdy]; omega))
  have HPk := hidq (fun (k : Nat) (hk : k ≤ m) => show 0 ≤ M.up y k ∧ M.up y k ≤ 18446744073709551615 by
    have o := M.ok_up L.ok (show 0 ≤ ((k : Nat) : Int) by omega) (by rw [hdy]; omega)
    have := M.ok_lt o
    have := (M.ok_of o).2.2.1
    exact ⟨by omega, by omega⟩)
  have HPS := hidq (show M.prS H 1 y = (M.chainL y).map (fun n => (n, 0)) by unfold M.prS; rw [if_pos rfl])
  obtain ⟨Pn, hPn⟩ : ∃ Pn : Nat → List (Int × Int), ∀ k, Pn k = ((M.chainL y).take k).map (fun n => (n, 0)) := ⟨_, fun _ => rfl⟩
  have HP0 := hidq (show Pn 0 = [] by rw [hPn]; rfl)
  have HPM := hidq (show Pn (m + 1) = M.prS H 1 y by rw [hPn, HPS.out, List.take_of_length_le (by rw [HLn.out]; omega)])
  have HPY := hidq (fun k (hk : k < m + 1) => show Pn (k + 1) = Pn k ++ [(M.up y k, 0)] by
    rw [hPn, hPn, List.take_add_one, HAt.out k hk]; simp)
  have HPl := hidq (fun k => show (Pn k).length ≤ m + 1 by rw [hPn, List.length_map, List.length_take, HLn.out]; omega)
  have HM := hidq (show m ≤ 32 by omega)
  have HPin := hidq (fun x (hx : x ∈ Pn (m + 1)) => show 0 ≤ x.1 ∧ x.1 ≤ 18446744073709551615 ∧ 0 ≤ x.2 ∧ x.2 ≤ 18446744073709551615 by
    rw [hPn] at hx
    obtain ⟨n, hn, rfl⟩ := List.mem_map.1 hx
    obtain ⟨d, hd, rfl⟩ := (M.chain_mem L).1 (List.mem_of_mem_take hn)
    obtain ⟨z1, z2⟩ := HPk.out d hd
    exact ⟨z1, z2, by dsimp only; omega, by dsimp only; omega⟩)
  have hw1 : IntKind.i64.wrap (H + 1) = H + 1 := by rw [IntKind.wrap_i64]; omega
  have HH := hidq hm
  clear hPn n0 n1 s1 s2 hm hdy L HAt HLn
  generalize M.prS H 1 y = PS at *
  generalize hup : M.up y = up at *
  clear hup HPS
  go_enter Tryz.func26, Tryz.ntmps26
  go_wp2
  go_loopw [11, 5] (fun i x wr => ∃ k : Nat, k ≤ m + 1 ∧ i = .int .i64 k ∧ wr.ownsRow w.heap.size 46 2 x (Pn k).length (elSub.cells (Pn k)) ∧ Below w.heap.size w wr) (fun i _ _ => m + 1 - (intOf i).toNat)
  case atStart => exact ⟨0, by omega, rfl, by rw [HP0.out]; exact World.ownsRow_nil _ _ _ _, Below.refl _ _⟩
  case round =>
    rename_i wr
    obtain ⟨k, hk, rfl, hown, hb⟩ := hrel
    have HO := hidq hown
    have HB := hidq hb
    have hM := HM.out
    by_cases hkn : k < m + 1
    · have hki : (k : Int) < H + 1 := by have := HH.out; omega
      have HU := hidq (HUk.out k (by omega))
      obtain ⟨hn0, hn1⟩ := HPk.out k (by omega)
      have hpy := HPY.out k hkn
      have hPs := HPl.out k
      generalize up (k : Int) = n at *
      have HPY' := hidq hpy
      clear hown hb hpy
      go_wp2_with (first | (go_at_call 47; refine (HU.out _).mono ?_; rintro e w' ⟨rfl, hw⟩; subst w') | (at_builtin; refine wpList_append_sl (E := elSub) rfl _ _ rfl w.heap.size _ _ _ rfl (own_kept HO.out (below_one (o := (.cells #[.int .u64 n, .int .u64 0] 46)) (Below.refl wr.heap.size wr))) _ [(n, 0)] rfl (Ss.oneq _ _ n 0 _ (by first | rfl | simp) ⟨hn0, hn1, by omega, by omega⟩) (by simp only [List.length_cons, List.length_nil]; omega) (by have := HB.out.size; simp; omega) ?_; intro v7 w7 hown7 hgrow7; have O7 := hidq hown7; have B7 := hidq ((below_one (o := (.cells #[.int .u64 n, .int .u64 0] 46)) HB.out).grown hgrow7 (by have := HB.out.size; simp; omega) (fun q hq => (HO.out.lt q hq).1)); clear hown7 hgrow7))
      go_roundw
      case rel => exact ⟨k + 1, by omega, by go_num, by rw [HPY'.out, List.length_append]; exact O7.out, B7.out⟩
      case measure => simp [intOf]; omega
    · obtain rfl : k = m + 1 := by omega
      have hki : ¬ ((m + 1 : Nat) : Int) < H + 1 := by have := HH.out; omega
      have HS := hidq (own_form2 hown HPin.out)
      clear hown hb
      go_wp2
      go_ret
      exact ⟨_, rfl, by rw [← HPM.out]; exact HS.out, HB.out⟩
set_option maxRecDepth 100000 in
theorem ss_own1 (w : World) (B : Nat) (hB : w.heap.size = B) (base : Nat) (hb : base ≤ B) : (w.alloc (.cells #[.int .u64 1, .int .u64 0] 46)).ownsRow base 46 2 (.slice (some ⟨B, 0, none⟩) 1 1) 1 (elSub.cells [(1, 0)]) := by
  subst hB
  exact ⟨rfl, .inr ⟨w.heap.size, 1, _, rfl, hb, heap_alloc_new w _, by omega, by unfold maxLen; omega, rfl, rfl⟩⟩
set_option maxRecDepth 100000 in
set_option maxHeartbeats 2000000 in
theorem sbeside_any (H k y : Int) (m : Nat) (w : World) (L : M.Lf H y m) (hk : k = 2 ∨ k = 3) :
    Calls Tryz.prog 27 #[.int .i64 H, .int .i64 k, .int .u64 y] w fun e w' => ∃ v', e = .returned v' ∧ Ss w' v' (M.prS H k y) ∧ Below w.heap.size w w' := by
  have hm := L.hm
  obtain ⟨s1, s2, n0, -⟩ := M.ok_of L.ok
  have n1 : y ≤ 18446744073709551615 := by have := M.ok_lt L.ok; omega
  have hdy := L.dy
  have HUk := hidq (fun (j : Nat) (x : Int) (hx : x = j) (hk : j ≤ m) W => (show Calls Tryz.prog 47 #[.int .i64 H, .int .u64 y, .int .i64 x] W fun e w' => e = .returned (.tuple #[.int .u64 (M.up y (j : Nat)), .int .i64 0]) ∧ w' = W by
    subst hx
    have := up_any H y (j : Int) W (by omega) n1
    have hE : M.upE H y (j : Int) = 0 := by unfold M.upE; rw [if_pos L.ok, if_pos ⟨by omega, by rw [hdy]; omega⟩]
    rwa [show M.upV H y (j : Int) = M.up y j by unfold M.upV; rw [if_pos hE], hE] at this))
  have HOk := hidq (fun (k : Nat) (hk : k ≤ m) => M.ok_up L.ok (show 0 ≤ ((k : Nat) : Int) by omega) (by rw [hdy]; omega))
  have HPk := hidq (fun (k : Nat) (hk : k ≤ m) => show 0 ≤ M.up y k ∧ M.up y k ≤ 18446744073709551615 by
    have o := HOk.out k hk
    have := M.ok_lt o
    have := (M.ok_of o).2.2.1
    exact ⟨by omega, by omega⟩)
  have HW := hidq (fun (d e : Nat) (hd : d < e) (he : e ≤ m) => show M.othV H (M.up y (e : Nat)) = M.oth (M.up y (e : Nat)) ∧ M.othE H (M.up y (e : Nat)) = 0 ∧ 0 ≤ M.oth (M.up y (e : Nat)) ∧ M.oth (M.up y (e : Nat)) ≤ 18446744073709551615 ∧ M.myV H k (M.up y (d : Nat)) (M.oth (M.up y (e : Nat))) = M.prP H k (M.up y (d : Nat), M.oth (M.up y (e : Nat))) by
    obtain ⟨a1, -, -, -, a5, a6, a7⟩ := M.way_facts L hd he
    have ok1 := HOk.out e he
    have ok2 : M.okB H (M.oth (M.up y (e : Nat))) = true := ((M.sub_of a1).2.resolve_left a6).2.1
    have ne1 : M.up y (e : Nat) ≠ 1 := fun hh => by
      rw [hh] at a5
      have : M.dep (M.oth 1) = 0 := by decide +kernel
      omega
    have e0 : M.othE H (M.up y (e : Nat)) = 0 := by unfold M.othE; rw [if_pos ok1, if_neg ne1]
    have := M.ok_lt ok2
    have := (M.ok_of ok2).2.2.1
    exact ⟨by unfold M.othV; rw [if_pos e0], e0, by omega, by omega, M.my_way L hk hd he⟩)
  have HM := hidq (show m ≤ 32 by omega)
  have HG0 := hidq (show M.prG H k y m 0 0 = [(1, 0)] from rfl)
  have HGn := hidq (fun i => M.prG_next (h := H) (k := k) (y := y) (m := m) i)
  have HGs := hidq (fun i q => M.prG_step (h := H) (k := k) (y := y) (m := m) i q)
  have HGl := hidq (fun i q => M.prG_len (h := H) (k := k) (y := y) (m := m) i q)
  have HGm := hidq (show M.prG H k y m m 0 = M.prS H k y by
    have h1 := HGn.out m
    rw [Nat.sub_self] at h1
    rw [h1]
    exact M.prG_last (k := k) L (by omega))
  have HGin := hidq (fun x (hx : x ∈ M.prS H k y) => show 0 ≤ x.1 ∧ x.1 ≤ 18446744073709551615 ∧ 0 ≤ x.2 ∧ x.2 ≤ 18446744073709551615 by
    obtain ⟨a1, -⟩ := M.prS_in L (show M.kB k = true by rcases hk with rfl | rfl <;> rfl) x hx
    obtain ⟨b1, b2⟩ := M.sub_of a1
    have := M.ok_lt b1
    have := (M.ok_of b1).2.2.1
    rcases b2 with b2 | b2
    · rw [b2]; omega
    · have := M.ok_lt b2.2.1
      have := (M.ok_of b2.2.1).2.2.1
      omega)
  have UU := hidq (fun I J W h0 h1 h2 h3 => lmay_any H k I J W h0 h1 h2 h3)
  have HH := hidq hm
  generalize M.prG H k y m = G at *
  clear n0 n1 s1 s2 hm hdy L hk HOk
  generalize M.prS H k y = PS at *
  generalize hup : M.up y = up at *
  clear hup
  have O0 := hidq (ss_own1 w w.heap.size rfl w.heap.size (Nat.le_refl _))
  have B0 := hidq (below_one (o := (.cells #[.int .u64 1, .int .u64 0] 46)) (Below.refl w.heap.size w))
  go_enter Tryz.func27, Tryz.ntmps27
  go_wp2
  go_loopw [22, 7] (fun a x wr => ∃ i : Nat, i ≤ m ∧ a = .int .i64 i ∧ wr.ownsRow w.heap.size 46 2 x (G i 0).length (elSub.cells (G i 0)) ∧ Below w.heap.size w wr) (fun a _ _ => m - (intOf a).toNat)
  case atStart => exact ⟨0, by omega, rfl, by rw [HG0.out]; exact O0.out, B0.out⟩
  case round =>
    rename_i wr
    obtain ⟨i, hi, rfl, hown, hb⟩ := hrel
    have HO := hidq hown
    have BX := hidq hb
    have hM := HM.out
    by_cases hin : i < m
    · have hii : (i : Int) < H := by have := HH.out; omega
      have HU1 := hidq (HUk.out i (i : Int) rfl (by omega))
      obtain ⟨p1, p2⟩ := HPk.out i (by omega)
      obtain ⟨I, hI⟩ : ∃ I, up (i : Int) = I := ⟨_, rfl⟩
      rw [hI] at HU1 p1 p2
      have HI := hidq hI
      clear hI
      have hwi : IntKind.i64.wrap (H - (i : Int)) = H - (i : Int) := by have := HH.out; rw [IntKind.wrap_i64]; omega
      clear hb hown
      go_wp2_with (first | (go_at_call 47; refine (HU1.out _).mono ?_; rintro e w' ⟨rfl, hw⟩; subst w'))
      go_loopw [35, 7] (fun a x wr => ∃ q : Nat, q ≤ m - i ∧ a = .int .i64 q ∧ wr.ownsRow w.heap.size 46 2 x (G i q).length (elSub.cells (G i q)) ∧ Below w.heap.size w wr) (fun a _ _ => m - i - (intOf a).toNat)
      case atStart => exact ⟨0, by omega, rfl, HO.out, BX.out⟩
      case round =>
        rename_i wr2
        obtain ⟨q, hq, rfl, hownq, hbq⟩ := hrel
        have HQ := hidq hownq
        have HBQ := hidq hbq
        by_cases hqn : q < m - i
        · have hqi : (q : Int) < H - (i : Int) := by have := HH.out; omega
          have hw2 : IntKind.i64.wrap ((i : Int) + (q : Int)) = (i : Int) + (q : Int) := by rw [IntKind.wrap_i64]; omega
          have hw3 : IntKind.i64.wrap ((i : Int) + (q : Int) + 1) = (i : Int) + (q : Int) + 1 := by rw [IntKind.wrap_i64]; omega
          have HU2 := hidq (HUk.out (i + 1 + q) ((i : Int) + (q : Int) + 1) (by omega) (by omega))
          obtain ⟨p3, p4⟩ := HPk.out (i + 1 + q) (by omega)
          obtain ⟨o1, o2, o3, o4, o5⟩ := HW.out i (i + 1 + q) (by omega) (by omega)
          have OC := hidq (fun W => other_any H (up ((i + 1 + q : Nat) : Int)) W p3 p4)
          rw [o1, o2] at OC
          have UC := hidq (fun W => UU.out (up (i : Int)) (M.oth (up ((i + 1 + q : Nat) : Int))) W (by rw [HI.out]; omega) (by rw [HI.out]; omega) o3 o4)
          rw [o5] at UC
          have hgs := HGs.out i q
          rw [HI.out] at UC hgs
          have hgl := HGl.out i q
          have hgl2 : i * m ≤ 32 * 32 := Nat.mul_le_mul (by omega) hM
          clear o1 o2 o5
          generalize M.myE H k I (M.oth (up ((i + 1 + q : Nat) : Int))) = sE at *
          obtain ⟨r, hr⟩ : ∃ r, M.prP H k (I, M.oth (up ((i + 1 + q : Nat) : Int))) = r := ⟨_, rfl⟩
          rw [hr] at UC hgs
          clear hr
          generalize up ((i + 1 + q : Nat) : Int) = N at *
          generalize M.oth N = J at *
          have HGS := hidq hgs
          clear hownq hbq hgs
          cases r with
          | true =>
            go_wp2_with (first | (go_at_call 47; refine (HU2.out _).mono ?_; rintro e w' ⟨rfl, hw⟩; subst w') | (go_at_call 48; refine (OC.out _).mono ?_; rintro e w' ⟨rfl, hw⟩; subst w') | (go_at_call 49; refine (UC.out _).mono ?_; rintro e w5 ⟨rfl, hb5⟩; obtain ⟨tb1, tb2⟩ := two_behind hb5; have B5 := hidq (below_trans (below_one (o := (.cells #[.int .u64 I, .int .u64 J] 46)) HBQ.out) hb5); have O5 := hidq (own_kept HQ.out (below_trans (below_one (o := (.cells #[.int .u64 I, .int .u64 J] 46)) (Below.refl _ _)) hb5)); clear hb5) | (at_builtin; refine wpList_append_sl (E := elSub) rfl _ _ rfl w.heap.size _ _ _ rfl (own_kept O5.out (below_one (o := (.cells #[.int .u64 I, .int .u64 J] 46)) (Below.refl w5.heap.size w5))) _ [(I, J)] rfl (Ss.oneq _ _ I J _ (by first | rfl | simp) ⟨p1, p2, o3, o4⟩) (by simp only [List.length_cons, List.length_nil]; omega) (by have := B5.out.size; simp; omega) ?_; intro v7 w7 hown7 hgrow7; have O7 := hidq hown7; have B7 := hidq ((below_one (o := (.cells #[.int .u64 I, .int .u64 J] 46)) B5.out).grown hgrow7 (by have := B5.out.size; simp; omega) (fun q hq => (O5.out.lt q hq).1)); clear hown7 hgrow7))
            go_roundw
            case rel => exact ⟨q + 1, by omega, by go_num, by rw [HGS.out, if_pos trivial, List.length_append]; exact O7.out, B7.out⟩
            case measure => simp [intOf]; omega
          | false =>
            go_wp2_with (first | (go_at_call 47; refine (HU2.out _).mono ?_; rintro e w' ⟨rfl, hw⟩; subst w') | (go_at_call 48; refine (OC.out _).mono ?_; rintro e w' ⟨rfl, hw⟩; subst w') | (go_at_call 49; refine (UC.out _).mono ?_; rintro e w5 ⟨rfl, hb5⟩; obtain ⟨tb1, tb2⟩ := two_behind hb5; have B5 := hidq (below_trans (below_one (o := (.cells #[.int .u64 I, .int .u64 J] 46)) HBQ.out) hb5); have O5 := hidq (own_kept HQ.out (below_trans (below_one (o := (.cells #[.int .u64 I, .int .u64 J] 46)) (Below.refl _ _)) hb5)); clear hb5))
            go_roundw
            case rel => exact ⟨q + 1, by omega, by go_num, by rw [HGS.out, if_neg (by decide), List.append_nil]; exact O5.out, B5.out⟩
            case measure => simp [intOf]; omega
        · obtain rfl : q = m - i := by omega
          have hqi2 : ¬ ((m - i : Nat) : Int) < H - (i : Int) := by have := HH.out; omega
          clear hbq hownq
          go_wp2
          go_roundw
          case rel => exact ⟨i + 1, by omega, by go_num, by rw [← HGn.out]; exact HQ.out, HBQ.out⟩
          case measure => simp [intOf]; omega
    · obtain rfl : i = m := by omega
      have hii : ¬ (i : Int) < H := by have := HH.out; omega
      rw [HGm.out] at hown
      have HS := hidq (own_form2 hown HGin.out)
      clear hown hb
      go_wp2
      go_ret
      exact ⟨_, rfl, HS.out, BX.out⟩
end Go.Proofs.YthmiekinjfaflaaGreat
namespace Go.Proofs.YthmiekinjfaflaaGreat
open Go.RowKit
set_option maxRecDepth 100000 in
theorem spairs_any (h k i : Int) (w : World) (h0 : 0 ≤ i) (h1 : i ≤ 18446744073709551615) :
    Calls Tryz.prog 12 #[.int .i64 h, .int .i64 k, .int .u64 i] w fun e w' => ∃ v', e = .returned (.tuple #[v', .int .i64 (M.prsE h k i)]) ∧ Ss w' v' (M.prsL h k i) ∧ Below w.heap.size w w' := by
  have HLF := hidq (fun W => leaf_any h i W h0 h1)
  unfold M.prsE M.prsL
  by_cases hl : M.leafE h i = 0
  · rw [decide_eq_true hl]
    rw [hl] at HLF
    cases hk : M.kB k with
    | true =>
      have L := M.lf_of hl h0
      have hlV := (M.leaf_facts h0 hl).1
      rw [hlV] at HLF
      have HUP := hidq (fun W => supward_any h (M.p2 h + i) h.toNat W L)
      have HBE := hidq (fun hk W => sbeside_any h k (M.p2 h + i) h.toNat W L hk)
      clear hl hlV L
      simp only [Bool.and_self, if_true]
      generalize M.p2 h + i = y at *
      rcases M.kB_of hk with rfl | hk2 | hk3
      · clear HBE hk
        generalize M.prS h 1 y = PS at *
        go_enter Tryz.func12, Tryz.ntmps12
        go_wp2_with (first | (go_at_call 25; refine (HLF.out _).mono ?_; rintro e w' ⟨rfl, hw⟩; subst w') | (go_at_call 26; refine (HUP.out _).mono ?_; rintro e w1 ⟨v1, rfl, u1, hb1⟩; have U1 := hidq u1; have B1 := hidq hb1; clear u1 hb1))
        go_ret2
        exact ⟨_, rfl, U1.out, B1.out⟩
      · subst hk2
        have HB2 := hidq (fun W => HBE.out (.inl rfl) W)
        clear HUP HBE hk
        generalize M.prS h 2 y = PS at *
        go_enter Tryz.func12, Tryz.ntmps12
        go_wp2_with (first | (go_at_call 25; refine (HLF.out _).mono ?_; rintro e w' ⟨rfl, hw⟩; subst w') | (go_at_call 27; refine (HB2.out _).mono ?_; rintro e w1 ⟨v1, rfl, u1, hb1⟩; have U1 := hidq u1; have B1 := hidq hb1; clear u1 hb1))
        go_ret2
        exact ⟨_, rfl, U1.out, B1.out⟩
      · subst hk3
        have HB2 := hidq (fun W => HBE.out (.inr rfl) W)
        clear HUP HBE hk
        generalize M.prS h 3 y = PS at *
        go_enter Tryz.func12, Tryz.ntmps12
        go_wp2_with (first | (go_at_call 25; refine (HLF.out _).mono ?_; rintro e w' ⟨rfl, hw⟩; subst w') | (go_at_call 27; refine (HB2.out _).mono ?_; rintro e w1 ⟨v1, rfl, u1, hb1⟩; have U1 := hidq u1; have B1 := hidq hb1; clear u1 hb1))
        go_ret2
        exact ⟨_, rfl, U1.out, B1.out⟩
    | false =>
      obtain ⟨k1, k2, k3⟩ := M.kB_not hk
      have k4 : (k == 1) = false := by rw [beq_eq_false_iff_ne]; exact k1
      have k5 : (k == 2) = false := by rw [beq_eq_false_iff_ne]; exact k2
      have k6 : (k == 3) = false := by rw [beq_eq_false_iff_ne]; exact k3
      clear hl hk
      generalize M.leafV h i = lv at *
      go_enter Tryz.func12, Tryz.ntmps12
      go_wp2_with (first | (go_at_call 25; refine (HLF.out _).mono ?_; rintro e w' ⟨rfl, hw⟩; subst w'))
      go_ret2
      exact ⟨_, rfl, Sl.nil _ _, Below.refl _ _⟩
  · rw [decide_eq_false hl, Bool.and_false]
    obtain ⟨E, hE⟩ : ∃ E, M.leafE h i = E := ⟨_, rfl⟩
    rw [hE] at hl HLF
    have hlb : (E == 0) = false := by rw [beq_eq_false_iff_ne]; exact hl
    clear hE
    generalize M.leafV h i = lv at *
    go_enter Tryz.func12, Tryz.ntmps12
    go_wp2_with (first | (go_at_call 25; refine (HLF.out _).mono ?_; rintro e w' ⟨rfl, hw⟩; subst w'))
    go_ret2
    exact ⟨_, rfl, Sl.nil _ _, Below.refl _ _⟩
theorem M.live14a : M.prsL 2 2 0 = [(1, 0), (1, 3), (1, 5), (2, 5)] := by decide +kernel
theorem M.live14b : M.prsE 2 2 0 = 0 := by decide +kernel
theorem ss_lit14 (w : World) (t : TypeId) (B : Nat) (hB : w.heap.size = B) : Ss (w.alloc (.cells #[.int .u64 1, .int .u64 0, .int .u64 1, .int .u64 3, .int .u64 1, .int .u64 5, .int .u64 2, .int .u64 5] t)) (.slice (some ⟨B, 0, none⟩) 4 4) [(1, 0), (1, 3), (1, 5), (2, 5)] := by
  subst hB
  refine ⟨_, _, rfl, by simp, by unfold maxLen; simp, by intro z hz; simp at hz; rcases hz with rfl | rfl | rfl | rfl <;> exact ⟨by decide, by decide, by decide, by decide⟩, fun _ => ⟨w.heap.size, 0, rfl, by simp, fun j hj => ?_⟩⟩
  rw [cell_at]
  match j, hj with
  | 0, _ => rfl
  | 1, _ => rfl
  | 2, _ => rfl
  | 3, _ => rfl
  | 4, _ => rfl
  | 5, _ => rfl
  | 6, _ => rfl
  | 7, _ => rfl
set_option maxRecDepth 100000 in
set_option maxHeartbeats 1000000 in
theorem live14_any (w : World) :
    Calls Tryz.prog 4 #[] w fun e w' => e = .returned (.bool true) ∧ Below w.heap.size w w' := by
  obtain ⟨X, hX⟩ : ∃ X : List (Int × Int), [(1, 0), (1, 3), (1, 5), (2, 5)] = X := ⟨_, rfl⟩
  have LA := M.live14a
  rw [hX] at LA
  have LB := M.live14b
  have HH := hidq (fun W => spairs_any 2 2 0 W (by omega) (by omega))
  rw [LA, LB] at HH
  have HX := hidq hX
  clear LA LB hX
  go_enter Tryz.func4, Tryz.ntmps4
  go_wp2_with (first | (go_at_call 12; refine (HH.out _).mono ?_; rintro e w1 ⟨v1, rfl, u1, hb1⟩; have U1 := hidq u1; have B1 := hidq hb1; clear u1 hb1) | (go_at_call 13; refine (rsameS_yes X _ _ _ (U1.out.alloc _) (by rw [← HX.out]; exact ss_lit14 _ _ _ (by first | rfl | simp))).mono ?_; rintro e w2 ⟨rfl, hb2⟩; have B2 := hidq (below_trans (below_one B1.out) hb2); clear hb2))
  go_ret
  exact ⟨rfl, B2.out⟩
end Go.Proofs.YthmiekinjfaflaaGreat
