/-
  What the document's own Deep comes to at every input. Condition: the slice holds terms.
-/
import Derived.Test.YtkggcfkjmmijbaaDoorT7
import Derived.OneCell
import Derived.RegionTactic
namespace Go.Proofs.YtkggcfkjmmijbaaDoor
open Go.RowKit
namespace M
def pf (A : List Tm) (ps : List Int) (q : Nat) : Int := (ps.take q).foldl (fun m p => max m (deepV A p.toNat + 1)) 0
theorem pf_zero (A : List Tm) (ps : List Int) : pf A ps 0 = 0 := by simp [pf]
theorem pf_succ (A : List Tm) (ps : List Int) (q : Nat) (h : q < ps.length) : pf A ps (q + 1) = max (pf A ps q) (deepV A (ps[q]?.getD 0).toNat + 1) := by
  unfold pf
  rw [List.take_succ_eq_append_getElem h, List.foldl_append, List.getElem?_eq_getElem h]
  rfl
theorem pf_all (A : List Tm) (t : Tm) : pf A (parts t) (parts t).length = stepD (deepV A) t := by unfold pf stepD; rw [List.take_length]
theorem fold_bd (d : Int → Int) (c : Int) (hc : 0 ≤ c) : ∀ (ps : List Int) (m : Int), 0 ≤ m → m ≤ c → (∀ p ∈ ps, d p + 1 ≤ c) → 0 ≤ ps.foldl (fun m p => max m (d p + 1)) m ∧ ps.foldl (fun m p => max m (d p + 1)) m ≤ c
  | [], m, h0, h1, _ => ⟨h0, h1⟩
  | p :: ps, m, h0, h1, h => by
    rw [List.foldl_cons]
    have hp := h p (by simp)
    exact fold_bd d c hc ps _ (by omega) (by omega) (fun q hq => h q (by simp [hq]))
theorem deepV_bd {A : List Tm} (hA : Ok A) : ∀ (n i : Nat), i < n → i < A.length → 0 ≤ deepV A i ∧ deepV A i ≤ i := by
  intro n
  induction n with
  | zero => intro i h; omega
  | succ n ih =>
    intro i hn hi
    have hp := parts_ahead (hA.2 i hi).1
    rw [deepV_eq i hp]
    unfold stepD
    refine fold_bd (fun p => deepV A p.toNat) i (by omega) _ 0 (by omega) (by omega) fun p hq => ?_
    have h1 := hp p hq
    have := ih p.toNat (by omega) (by omega)
    omega
theorem pf_bd {A : List Tm} (hA : Ok A) {i : Nat} (hi : i < A.length) (q : Nat) : 0 ≤ pf A (parts (at_ A i)) q ∧ pf A (parts (at_ A i)) q ≤ i := by
  unfold pf
  refine fold_bd (fun p => deepV A p.toNat) i (by omega) _ 0 (by omega) (by omega) fun p hq => ?_
  have h1 := parts_ahead (hA.2 i hi).1 p (List.mem_of_mem_take hq)
  have := deepV_bd hA (p.toNat + 1) p.toNat (by omega) (by omega)
  omega
def rowD (A : List Tm) (k n : Nat) (F : Int) : List Int := deepT A k ++ F :: List.replicate (n - (k + 1)) 0
def rowO (A : List Tm) (k n : Nat) : List Int := deepT A k ++ List.replicate (n - k) 0
theorem rowD_len {A : List Tm} {k n : Nat} {F : Int} (h : k < n) : (rowD A k n F).length = n := by unfold rowD; rw [List.length_append, deepT_length, List.length_cons, List.length_replicate]; omega
theorem rowO_len {A : List Tm} {k n : Nat} (h : k ≤ n) : (rowO A k n).length = n := by unfold rowO; rw [List.length_append, deepT_length, List.length_replicate]; omega
theorem rowD_k (A : List Tm) (k n : Nat) (F : Int) : (rowD A k n F)[k]? = some F := by
  unfold rowD; rw [List.getElem?_append_right (by rw [deepT_length]; omega), deepT_length]; simp
theorem rowD_p {A : List Tm} {k n : Nat} {F : Int} {p : Nat} (h : p < k) : (rowD A k n F)[p]? = some (deepV A p) := by
  unfold rowD
  rw [List.getElem?_append_left (by rw [deepT_length]; exact h)]
  have h1 := deepT_get A p k h
  rw [List.getElem?_eq_getElem (by rw [deepT_length]; exact h)] at h1 ⊢
  rw [← h1]; rfl
theorem rowD_set (A : List Tm) (k n : Nat) (F F' : Int) : (rowD A k n F).set k F' = rowD A k n F' := by
  unfold rowD; rw [List.set_append, if_neg (by rw [deepT_length]; omega), deepT_length]; simp
theorem rowO_start {A : List Tm} {k n : Nat} (h : k < n) : rowO A k n = rowD A k n 0 := by
  unfold rowO rowD
  rw [show n - k = (n - (k + 1)) + 1 by omega, List.replicate_succ]
theorem rowO_next {A : List Tm} {k n : Nat} (hp : ∀ p ∈ parts (at_ A k), 0 ≤ p ∧ p < (k : Int)) : rowD A k n (stepD (deepV A) (at_ A k)) = rowO A (k + 1) n := by
  unfold rowO rowD
  rw [deepT, List.append_assoc]
  congr 1
  have h1 := deepV_eq k hp
  unfold deepV at h1
  rw [deepT, List.getElem?_append_right (by rw [deepT_length]; omega), deepT_length] at h1
  simp only [Nat.sub_self, List.getElem?_cons_zero, Option.getD_some] at h1
  have h2 : stepD (deepV A) (at_ A k) = stepD (fun p => (deepT A k)[p]?.getD 0) (at_ A k) := h1.symm
  rw [h2]; rfl
theorem rowO_get {A : List Tm} {i n : Nat} (h : i < n) : (rowO A n n)[i]? = some (deepV A i) := by
  unfold rowO
  rw [Nat.sub_self, List.replicate_zero, List.append_nil]
  have h1 := deepT_get A i n h
  rw [List.getElem?_eq_getElem (by rw [deepT_length]; exact h)] at h1 ⊢
  rw [← h1]; rfl
theorem parts_le (t : Tm) : (parts t).length ≤ 2 := by unfold parts; split <;> (try split) <;> simp
def deepE (A : List Tm) (i : Int) : Int := if thr A i = true then 0 else 1
def dpV (A : List Tm) (i : Int) : Int := if thr A i = true then deepV A i.toNat else 0
end M
theorem elInt_set (D : List Int) (k : Nat) (x : Int) : (elInt.cells D).set k (.int .i64 x) = elInt.cells (D.set k x) := by rw [elInt_cells, elInt_cells, List.map_set]
theorem elInt_get (D : List Int) (k : Nat) (x : Int) (h : D[k]? = some x) : (elInt.cells D)[k]? = some (.int .i64 x) := by rw [elInt_cells, List.getElem?_map, h]; rfl
theorem elInt_zeros (n : Nat) : (madeCells #[Value.int .i64 0] n).toList = elInt.cells (List.replicate n 0) := by
  rw [elInt_cells, List.map_replicate]
  exact toList_madeCells_one _ _
theorem own_keptq {w w' : World} {base : Nat} {e : TypeId} {size : Nat} {v : Value} {n : Nat} {xs : List Value} (h : w.ownsRow base e size v n xs) (hb : Below w.heap.size w w') : w'.ownsRow base e size v n xs :=
  h.kept (row := none) ⟨hb.os, hb.tape, hb.output, hb.size, fun k hk _ => hb.block k hk⟩ (by cases hv : v.ownBlock <;> simp)
theorem own_formq {w : World} {base : Nat} {e : TypeId} {size : Nat} {v : Value} {n : Nat} {xs : List Value} (h : w.ownsRow base e size v n xs) : ∃ ao cap, v = .slice ao n cap ∧ (0 < n → ∃ g, ao = some ⟨g, 0, none⟩ ∧ base ≤ g) := by
  rcases h.2 with ⟨h1, h2⟩ | ⟨g, cap, cur, h1, h2, _⟩
  · exact ⟨none, 0, by rw [h1, h2], fun h => by omega⟩
  · exact ⟨_, cap, h1, fun _ => ⟨g, rfl, h2⟩⟩
theorem own_cellq {w : World} {base : Nat} {e : TypeId} {g n cap : Nat} {D : List Int} (h : w.ownsRow base e 1 (.slice (some ⟨g, 0, none⟩) n cap) n (elInt.cells D)) {k : Nat} {x : Int} (hk : k < n) (hx : D[k]? = some x) : w.cell? ⟨g, k, none⟩ = some (.int .i64 x) := by
  rw [h.cellAt k (by omega)]; exact elInt_get D k x hx
theorem own_storeq {w : World} {base : Nat} {e : TypeId} {g n cap : Nat} {D : List Int} (h : w.ownsRow base e 1 (.slice (some ⟨g, 0, none⟩) n cap) n (elInt.cells D)) (k : Nat) (x : Int) : (w.setCell ⟨g, k, none⟩ (.int .i64 x)).ownsRow base e 1 (.slice (some ⟨g, 0, none⟩) n cap) n (elInt.cells (D.set k x)) := by
  have := (h.stored k (.int .i64 x)).1
  rwa [elInt_set] at this
theorem own_otherq {w : World} {base : Nat} {e : TypeId} {size n : Nat} {v : Value} {xs : List Value} (h : w.ownsRow base e size v n xs) {g k : Nat} (hg : g < base) (u : Value) : (w.setCell ⟨g, k, none⟩ u).ownsRow base e size v n xs := ownsRow_setCell_below h hg u
theorem Tryd.infoIntq : (Tryd.prog.info? 3).map (fun i => (i.zero, i.size, i.bytes)) = some (some (.int .i64 0), 1, 8) := by kernel_rfl
set_option maxRecDepth 100000 in
set_option maxHeartbeats 4000000 in
theorem rdeep_any (A : List M.Tm) (i : Int) (v : Value) (w : World) (u : Ts w v A) :
    Calls Tryd.prog 20 #[v, .int .i64 i] w fun e w' => e = .returned (.tuple #[.int .i64 (M.dpV A i), .int .i64 (M.deepE A i)]) ∧ Below w.heap.size w w' := by
  by_cases ht : M.thr A i = true
  · have e1 : M.dpV A i = M.deepV A i.toNat := by unfold M.dpV; rw [if_pos ht]
    have e2 : M.deepE A i = 0 := by unfold M.deepE; rw [if_pos ht]
    rw [e1, e2]
    obtain ⟨hA, h0, h1⟩ := M.thr_iff.1 ht
    obtain ⟨m, rfl⟩ : ∃ m : Nat, i = m := ⟨i.toNat, by omega⟩
    rw [Int.toNat_natCast]
    have HT := hidq ht
    have HA := hidq hA
    obtain ⟨ao, cap, rfl, q1, q2, q4⟩ := u.form
    obtain ⟨b, off, rfl⟩ := q4 (by omega)
    have U0 := hidq u
    have UB := hidq (fun X (hb : Below w.heap.size w X) => u.below hb)
    have hl := hA.1
    clear u ht hA e1 e2 q4
    have hml : m < A.length := by omega
    obtain ⟨r, hr⟩ : ∃ r, M.deepV A m = r := ⟨_, rfl⟩
    have HR := hidq hr
    rw [hr]
    clear hr
    generalize hN : A.length = N at *
    have HN := hidq hN
    clear hN
    obtain ⟨i0, hi, hz0, hz1, hz2⟩ := info_partsq Tryd.infoIntq
    obtain ⟨n, hn⟩ : ∃ n, m + 1 = n := ⟨_, rfl⟩
    have hni : (m : Int) + 1 = n := by omega
    have hnw := wrap64 (x := (n : Int)) (by omega) (by omega)
    have Hn := hidq hn
    clear hn
    go_enter Tryd.func20, Tryd.ntmps20
    go_wp2_with (first | (go_at_call 34; refine (rthere_eq HT.out _ U0.out).mono ?_; rintro r w1 ⟨rfl, hb1⟩; have B1 := hidq hb1; have sz1 := hb1.size; clear hb1) | (at_make; refine wpList_make_full _ rfl _ _ 37 rfl w.heap.size 3 i0 (.int .i64 0) 1 Tryd.underlying37 hi hz0 hz1 _ _ _ _ n rfl rfl (by first | rfl | omega) (by first | rfl | omega) ?b2 ?b3 ?b4 ?_))
    case b2 => rw [hz2]; have := Hn.out; omega
    case b3 => unfold maxLen; have := Hn.out; omega
    case b4 => exact sz1
    intro w2 hown hgrow
    rw [elInt_zeros] at hown
    have hB2 : Below w.heap.size w w2 := B1.out.grown hgrow sz1 (fun k hk => by cases hk)
    have hg2 : w1.heap.size < w2.heap.size := (hown.lt _ rfl).2
    generalize w1.heap.size = g at *
    clear hgrow B1
    have HB2 := hidq hB2
    have HOW := hidq hown
    clear hB2 hown
    go_wp2
    go_loopw [19] (fun x wr => ∃ k : Nat, k ≤ n ∧ x = .int .i64 k ∧ wr.ownsRow w.heap.size 3 1 (.slice (some ⟨g, 0, none⟩) n n) n (elInt.cells (M.rowO A k n)) ∧ Below w.heap.size w wr) (fun x _ => n - (intOf x).toNat)
    case atStart => exact ⟨0, by omega, rfl, HOW.out, HB2.out⟩
    case round =>
      obtain ⟨k, hk, rfl, hown, hb⟩ := hrel
      clear HOW HB2
      have HOW := hidq hown
      have HB := hidq hb
      have hgr := hidq (hown.lt _ rfl)
      clear hown hb
      by_cases hlt : k < n
      · obtain ⟨x1, x2, x3⟩ := Ts.cell (UB.out _ HB.out) (k := k) (by rw [HN.out]; omega)
        have HP := hidq (M.parts_ahead (HA.out.2 k (by rw [HN.out]; omega)).1)
        have HF := hidq (fun q => M.pf_bd HA.out (i := k) (by rw [HN.out]; omega) q)
        have HNX := hidq (M.rowO_next (n := n) HP.out)
        rw [← M.pf_all] at HNX
        obtain ⟨t, hs⟩ : ∃ t, M.at_ A k = t := ⟨_, rfl⟩
        rw [hs] at x1 x2 x3 HP HF HNX
        have HRP := hidq (rparts_any t)
        have hn2 := M.parts_le t
        generalize M.parts t = ps at *
        obtain ⟨np, hnp⟩ : ∃ np, ps.length = np := ⟨_, rfl⟩
        rw [hnp] at HRP HNX hn2
        have HNP := hidq hnp
        clear hs hnp
        have hkN : (k : Int) < N := by omega
        have HSt := hidq (M.rowO_start (A := A) hlt)
        go_wp2_with (first | (go_at_call 24; refine (HRP.out _).mono ?_; rintro rr w3 ⟨vp, rfl, hop, hb3⟩; obtain ⟨ao, capp, rfl, hsh⟩ := own_formq hop; have HSH := hidq hsh; have HOP := hidq hop; have HO3 := hidq (own_keptq HOW.out hb3); have HB3 := hidq (below_trans HB.out hb3); clear hsh hop hb3))
        have hgB := hgr.out.2
        generalize wr.heap.size = B3 at *
        rw [HSt.out] at HO3
        go_loopw [28] (fun x wr => ∃ q : Nat, q ≤ np ∧ x = .int .i64 q ∧ wr.ownsRow w.heap.size 3 1 (.slice (some ⟨g, 0, none⟩) n n) n (elInt.cells (M.rowD A k n (M.pf A ps q))) ∧ wr.ownsRow B3 3 1 (.slice ao np capp) np (elInt.cells ps) ∧ Below w.heap.size w wr) (fun x _ => np - (intOf x).toNat)
        case atStart => exact ⟨0, by omega, rfl, by rw [M.pf_zero]; exact HO3.out, HOP.out, HB3.out⟩
        case round =>
          obtain ⟨q, hq, rfl, hown4, hop4, hb4⟩ := hrel
          have HO4 := hidq hown4
          have HP4 := hidq hop4
          have HB4 := hidq hb4
          clear hown4 hop4 hb4 HOP HO3 HB3
          by_cases hql : q < np
          · obtain ⟨h, rfl, hh⟩ := HSH.out (by omega)
            obtain ⟨p, hp⟩ : ∃ p, ps[q]? = some p := ⟨_, List.getElem?_eq_getElem (by rw [HNP.out]; exact hql)⟩
            have hpb := HP.out p (List.mem_of_getElem? hp)
            obtain ⟨p', rfl⟩ : ∃ p' : Nat, p = p' := ⟨p.toNat, by omega⟩
            have c1 := own_cellq HP4.out hql hp
            have c2 := own_cellq HO4.out hlt (M.rowD_k A k n _)
            have c3 := own_cellq HO4.out (k := p') (by omega) (M.rowD_p (A := A) (n := n) (F := M.pf A ps q) (by omega))
            have f1 := HO4.out.frozenAt k
            have HPF := hidq (M.pf_succ A ps q (by rw [HNP.out]; exact hql))
            rw [hp, Option.getD_some, Int.toNat_natCast] at HPF
            have bd1 := M.deepV_bd HA.out (p' + 1) p' (by omega) (by rw [HN.out]; omega)
            have bd2 := HF.out q
            have HST := hidq (fun x => own_storeq HO4.out k x)
            have HOT := hidq (fun x => own_otherq HP4.out (k := k) hgB x)
            simp only [M.rowD_set] at HST
            generalize M.deepV A p' = d at *
            obtain ⟨F, hF⟩ : ∃ F, M.pf A ps q = F := ⟨_, rfl⟩
            rw [hF] at c2 HPF bd2
            have hw := wrap64 (x := d + 1) (by omega) (by omega)
            have hpn : (p' : Int) < n := by omega
            have hkn : (k : Int) < n := by omega
            obtain ⟨F', hF'⟩ : ∃ F', M.pf A ps (q + 1) = F' := ⟨_, rfl⟩
            have HF' := hidq hF'
            rw [hF'] at HPF
            clear hp hF hF'
            by_cases hc : F < d + 1
            · have e : d + 1 = F' := by have := HPF.out; omega
              go_wp2
              go_region
              all_goals go_wp2
              all_goals go_roundw
              case rel => exact ⟨q + 1, by omega, by go_num, by rw [HF'.out]; exact HST.out F', HOT.out _, ((HB4.out.setCell (by have := hgr.out.1; simpa using this) _).drew)⟩
              case measure => simp [intOf]; omega
            · have e : F = F' := by have := HPF.out; omega
              subst e
              go_wp2
              go_region
              all_goals go_wp2
              all_goals go_roundw
              case rel => exact ⟨q + 1, by omega, by go_num, by rw [HF'.out]; exact HST.out F, HOT.out _, ((HB4.out.setCell (by have := hgr.out.1; simpa using this) _).drew)⟩
              case measure => simp [intOf]; omega
          · obtain rfl : q = np := by omega
            rw [HNX.out] at HO4
            have hO5 := HO4.out
            have hb5 := HB4.out
            clear HO4
            have HO5 := hidq hO5
            clear hO5 hb5
            go_wp2
            go_roundw
            case rel => exact ⟨k + 1, by omega, by go_num, HO5.out, HB4.out⟩
            case measure => simp [intOf]; omega
      · obtain rfl : k = n := by omega
        have c1 := own_cellq HOW.out (k := m) (by omega) (M.rowO_get (A := A) (by omega))
        rw [HR.out] at c1
        have hmn : (m : Int) < k := by omega
        go_wp2
        go_ret2
        exact ⟨rfl, HB.out⟩
  · have e1 : M.dpV A i = 0 := by unfold M.dpV; rw [if_neg ht]
    have e2 : M.deepE A i = 1 := by unfold M.deepE; rw [if_neg ht]
    rw [e1, e2]
    have HT := hidq (show M.thr A i = false by simpa using ht)
    have U0 := hidq u
    clear u ht e1 e2
    go_enter Tryd.func20, Tryd.ntmps20
    go_wp2_with (first | (go_at_call 34; refine (rthere_eq HT.out _ U0.out).mono ?_; rintro r w1 ⟨rfl, hb1⟩; have B1 := hidq hb1; have sz1 := hb1.size; clear hb1))
    go_ret2
    exact ⟨rfl, B1.out⟩
end Go.Proofs.YtkggcfkjmmijbaaDoor
