/-
  What the program's store.putBehind answers. Conditions: the slices hold terms that may be; the few are parts of the first one.
-/
import Derived.Test.YthmiekinjfaflaaGreatZSQ0
import Derived.Test.YthmiekinjfaflaaGreatZSt13
import Derived.Test.YthmiekinjfaflaaGreatZU5
namespace Go.Proofs.YthmiekinjfaflaaGreat
open Go.RowKit
theorem Mp.grown {W W' : World} {b : Nat} {o : Option Nat} {K : List (M.Tm × Int)} (h : Mp W b K) (hg : W.grownBy W' o) (hne : o ≠ some b) : Mp W' b K := by
  have hl := h.lt
  obtain ⟨es, clock, h1, h2⟩ := h
  exact ⟨es, clock, (hg.block b hl (fun e => hne e.symm)).trans h1, h2⟩
theorem own_not_map {W : World} {base z n b : Nat} {e : TypeId} {v : Value} {xs : List Value} {K : List (M.Tm × Int)} (h : W.ownsRow base e z v n xs) (hm : Mp W b K) : v.ownBlock ≠ some b := by
  rcases h.2 with ⟨rfl, _⟩ | ⟨g, cap, cur, rfl, _, hg, _⟩
  · intro h; cases h
  · intro h
    have e1 : g = b := by simpa [Value.ownBlock] using h
    subst e1
    obtain ⟨es, clock, h1, -⟩ := hm
    rw [hg] at h1
    cases h1
theorem Bx3.seta {W : World} {B : Nat} {c a z x : Int} (h : Bx3 W B (c, a, z)) : Bx3 (W.setCell ⟨B, 1, none⟩ (.int .i64 x)) B (c, x, z) := by
  have h0 := Go.heap_setCell_same W B 1 _ _ (.int .i64 x) h
  unfold Bx3
  rw [h0]
  rfl
theorem Bx3.frz {W : World} {B : Nat} {s : M.Tm} (h : Bx3 W B s) (j : Nat) : W.frozen? ⟨B, j, none⟩ = false := by
  have h' : W.heap[B]? = _ := h
  simp [World.frozen?, h']
theorem ts_tail {W : World} {b off n cap : Nat} {L : List M.Tm} (h : Ts W (.slice (some ⟨b, off, none⟩) n cap) L) (hn : n = L.length) (h1 : 1 ≤ n) : Ts W (.slice (some ⟨b, off + 3, none⟩) (n - 1) (cap - 1)) L.tail := by
  obtain ⟨ao, c, e, q1, -⟩ := h.form
  simp only [Value.slice.injEq] at e
  obtain ⟨-, -, rfl⟩ := e
  have hp := Sl.part (E := elTm) h 1 n (cap - 1) (by omega) (Nat.le_refl _) (by omega) (by omega) (by omega)
  rw [List.drop_one] at hp
  have e2 : L.tail.take (n - 1) = L.tail := List.take_of_length_le (by rw [List.length_tail]; omega)
  rw [e2] at hp
  exact hp
theorem at_tail {F : List M.Tm} {j : Nat} : M.at_ F.tail j = M.at_ F (j + 1) := by
  unfold M.at_
  rw [List.getElem?_tail]
theorem own_int {W : World} {base e g n cap : Nat} {S : List Int} (h : W.ownsRow base e 1 (.slice (some ⟨g, 0, none⟩) n cap) n (elInt.cells S)) {a : Nat} {x : Int} (ha : S[a]? = some x) (hn : a < n) : W.cell? ⟨g, a, none⟩ = some (.int .i64 x) := by
  rw [h.cellAt a (by omega)]
  have := elInt.cells_get S a 0 x ha (by decide)
  rw [show a * elInt.size + 0 = a from Nat.mul_one a] at this
  exact this
set_option maxRecDepth 100000 in
set_option maxHeartbeats 16000000 in
theorem sput_eq {A F L : List M.Tm} {p e : Int} {ps : List Int} (hx : M.putR A F.tail A [p] = (L, ps, e)) (hA : M.Ok A) (hF : F ≠ []) (hFl : F.length ≤ 60000) (hkd : ∀ j, 1 ≤ j → j < F.length → ∃ (c : Int) (a : Nat), M.at_ F j = (c, (a : Int), 0) ∧ a < j) (hp : M.fitI p) {vl vf : Value} (w : World) (u : Ts w vl A) (uf : Ts w vf F) :
    Calls Tryz.prog 29 #[vl, .int .i64 p, vf] w fun e' w' => ∃ v1 v2, e' = .returned (.tuple #[v1, v2, .int .i64 e]) ∧ w'.ownsRow w.heap.size 39 3 v1 L.length (elTm.cells L) ∧ w'.ownsRow w.heap.size 3 1 v2 ps.length (elInt.cells ps) ∧ Below w.heap.size w w' := by
  have U0 := hidq u
  have F0 := hidq uf
  obtain ⟨al, cl, rfl, hl1, hl2, hl4⟩ := u.form
  obtain ⟨af, cf, rfl, hf1, hf2, hf4⟩ := uf.form
  have hFp : 1 ≤ F.length := List.length_pos_iff.2 hF
  obtain ⟨bF, oF, rfl⟩ := hf4 (by omega)
  have FT := hidq (ts_tail uf rfl hFp)
  have HL4 := hidq hl4
  have HAl := hidq hA.1
  have HOk := hidq hA
  have HX := hidq hx
  have HKd := hidq hkd
  have HP := hidq hp
  have hmk := run_makeMapT
  have HAm := hidq (show A.length ≤ 65536 from hA.1)
  have HFl := hidq hFl
  have hTl := hidq (show F.tail.length = F.length - 1 from List.length_tail)
  clear u uf hl4 hf4 hx hkd hp hFl hA hF
  generalize hn : A.length = n at *
  have HN := hidq hn
  obtain ⟨m, hm⟩ : ∃ m, F.length = m + 1 := ⟨F.length - 1, by omega⟩
  have HM := hidq hm
  rw [hm, Nat.add_sub_cancel] at FT hTl
  rw [hm] at F0 hFp hf1 ⊢
  clear hn hm
  go_enter Tryz.func29, Tryz.ntmps29
  go_wp2_with (first | (go_at_call 18; refine (cloneT_any A (by rw [HN.out]; exact HAl.out) _ _ U0.out).mono ?_; rintro e1 w1 ⟨v1, rfl, o1, hb1⟩; rw [HN.out] at o1; obtain ⟨a1, c1, rfl, -⟩ := own_formq o1; have O1 := hidq o1; have B1 := hidq hb1; have U1 := hidq (U0.out.below hb1); clear o1 hb1))
  have HM0 := hidq (Mp.new w1)
  have HB0 := hidq (below_one (o := .map #[] 0) (Below.refl w1.heap.size w1))
  go_loopw [25] (fun i wr => ∃ k : Nat, k ≤ n ∧ i = .int .i64 k ∧ Below w1.heap.size w1 wr ∧ Mp wr w1.heap.size (kpl A k)) (fun i _ => n - (intOf i).toNat)
  case atStart => exact ⟨0, by omega, rfl, HB0.out, HM0.out⟩
  case round =>
    obtain ⟨k, hk, rfl, hb, hmp⟩ := hrel
    have HB := hidq hb
    have HMP := hidq hmp
    clear hmp HM0 HB0
    have hA8 := HAm.out
    by_cases hlt : k < n
    · have hki : (k : Int) < n := by omega
      obtain ⟨b1, o1, rfl⟩ := HL4.out (by omega)
      obtain ⟨x1, x2, x3⟩ := Ts.cell (U1.out.below hb) (k := k) (by rw [HN.out]; exact hlt)
      have hft := Ts.fit U0.out (k := k) (by rw [HN.out]; exact hlt)
      have hat := HOk.out.2 k (by rw [HN.out]; exact hlt)
      clear hb
      obtain ⟨s, hs⟩ : ∃ s, M.at_ A k = s := ⟨_, rfl⟩
      have HNW := hidq (show kfind s (kpl A k) = none by
        rw [kfind_kpl A s k (by rw [HN.out]; omega), ← hs, hat.2]; rfl)
      have HNX := hidq (show kpl A (k + 1) = kpl A k ++ [(s, (k : Int))] by rw [kpl_succ, hs])
      rw [hs] at x1 x2 x3 hft
      have HFT := hidq hft
      have HB1 := hidq (below_one (o := .cells #[.int .i64 s.1, .int .i64 s.2.1, .int .i64 s.2.2] 39) HB.out)
      have HM1 := hidq (HMP.out.alloc (.cells #[.int .i64 s.1, .int .i64 s.2.1, .int .i64 s.2.2] 39))
      have X := (Bx3.new wr s).cells
      clear hs hft hat
      go_wp2_with (first | (at_mapUpdate; refine wpList_storeT _ rfl _ _ _ rfl w1.heap.size (kpl A k) s k rfl rfl rfl HFT.out HM1.out HNW.out ?_; intro w3 hm3 hg3; have B3 := hidq (HB1.out.grown hg3 HB1.out.size (fun q hq => by cases hq; exact Nat.le_refl _)); have M3 := hidq hm3; clear hm3 hg3))
      go_roundw
      case rel => exact ⟨k + 1, by omega, by go_num, B3.out, by rw [HNX.out]; exact M3.out⟩
      case measure => simp [intOf]; omega
    · obtain rfl : k = n := by omega
      have hki : ¬ (k : Int) < k := by omega
      have W0 := hidq (below_trans B1.out hb)
      have O2 := hidq (own_kept O1.out hb)
      clear hb
      go_upto_region 9 with fail
      have P9 := hidq (show (wr.alloc (.cells #[.int .i64 p] 3)).ownsRow w.heap.size 3 1 (.slice (some ⟨wr.heap.size, 0, none⟩) 1 1) 1 (elInt.cells [p]) from ⟨rfl, .inr ⟨wr.heap.size, 1, _, rfl, W0.out.size, heap_alloc_new wr _, Nat.le_refl _, by unfold maxLen; omega, rfl, rfl⟩⟩)
      have hb9 := below_one (o := (.cells #[.int .i64 p] 3)) (Below.refl wr.heap.size wr)
      have O9 := hidq (own_kept O2.out hb9)
      have M9 := hidq (HMP.out.below hb9)
      have B9 := hidq (below_trans W0.out hb9)
      generalize w1.heap.size = bm at *
      clear hb9 O2 W0 HMP HB HL4 U1 B1 O1
      generalize wr.alloc (.cells #[.int .i64 p] 3) = w9 at *
      generalize wr.heap.size = gp at *
      have hFl := HFl.out
      have HE0 := hidq (show M.putR A (F.tail.drop 0) A [p] = (L, ps, e) from HX.out)
      clear HX
      by_cases hc1 : cf = 1
      · obtain rfl : m = 0 := by omega
        have hEx := HE0.out
        rw [List.drop_of_length_le (by rw [hTl.out]; exact Nat.le_refl _), M.putR] at hEx
        simp only [Prod.mk.injEq] at hEx
        obtain ⟨rfl, rfl, rfl⟩ := hEx
        clear HE0
        go_wp2_with (fail)
        go_loopw [39, 9, 13] (fun a x y wr => a = .int .i64 0 ∧ x = .slice a1 k c1 ∧ y = .slice (some ⟨gp, 0, none⟩) 1 1 ∧ wr = w9) (fun _ _ _ _ => 0)
        case atStart => exact ⟨rfl, rfl, rfl, rfl⟩
        case round =>
          obtain ⟨rfl, rfl, rfl, rfl⟩ := hrel
          go_wp2
          go_ret3
          exact ⟨_, _, rfl, by rw [HN.out]; exact O9.out, P9.out, B9.out⟩
      · go_wp2_with (fail)
        go_loopw [39, 9, 13] (fun a x y wr => ∃ (j : Nat) (L1 : List M.Tm) (ps1 : List Int), j ≤ m ∧ a = .int .i64 j ∧ (M.putR A (F.tail.drop j) L1 ps1 = (L, ps, e) ∧ ps1.length = j + 1 ∧ L1.length ≤ 65536 ∧ ∀ z ∈ ps1, M.fitI z) ∧ wr.ownsRow w.heap.size 39 3 x L1.length (elTm.cells L1) ∧ wr.ownsRow w.heap.size 3 1 y ps1.length (elInt.cells ps1) ∧ Mp wr bm (kpl A k) ∧ Below w.heap.size w wr) (fun a _ _ _ => m - (intOf a).toNat)
        case atStart => exact ⟨0, A, [p], by omega, rfl, ⟨HE0.out, rfl, by rw [HN.out]; exact HAm.out, by simp; exact HP.out⟩, by rw [HN.out]; exact O9.out, P9.out, M9.out, B9.out⟩
        case round =>
          obtain ⟨j, L1, ps1, hj, rfl, ⟨he1, he2, he3, he4⟩, hm1, hp1, hmp, hb⟩ := hrel
          have hm8 : m ≤ 60000 := by have := HM.out; omega
          obtain ⟨ap1, cp1, rfl, hgp⟩ := own_formq hp1
          obtain ⟨gp1, rfl, -⟩ := hgp (by omega)
          obtain ⟨a9, c9, rfl, -⟩ := own_formq hm1
          by_cases hlt : j < m
          · have hji : (j : Int) < m := by omega
            obtain ⟨c, a, h1, h2⟩ := HKd.out (j + 1) (by omega) (by rw [HM.out]; omega)
            obtain ⟨x1, x2, x3⟩ := Ts.cell (FT.out.below hb) (k := j) (by rw [hTl.out]; exact hlt)
            have hft := Ts.fit FT.out (k := j) (by rw [hTl.out]; exact hlt)
            rw [at_tail, h1] at x1 x2 x3 hft
            obtain ⟨q, hq⟩ : ∃ q, ps1[a]? = some q := ⟨_, List.getElem?_eq_getElem (by omega)⟩
            have hqf := he4 q (List.mem_of_getElem? hq)
            have hbx := below_one (o := (.cells #[.int .i64 c, .int .i64 a, .int .i64 0] 39)) (Below.refl wr.heap.size wr)
            have y1 := own_int (own_kept hp1 hbx) hq (by omega)
            have X0 := Bx3.new wr (c, (a : Int), 0)
            have xc := X0.cells
            have xf := X0.frz 1
            dsimp only at xc
            go_upto_region 13 with fail
            have hb2 := below_one (o := (.cells #[.int .i64 c, .int .i64 q, .int .i64 0] 39)) (Below.refl wr.heap.size wr)
            have xc2 := (Bx3.new wr (c, q, 0)).cells
            have OM2 := hidq (own_kept hm1 hb2)
            have OP2 := hidq (own_kept hp1 hb2)
            have hmp2 := hmp.below hb2
            have B2 := hidq (below_trans hb hb2)
            have HE1 := hidq he1
            have HE2 := hidq he2
            have HE3 := hidq he3
            have HE4 := hidq he4
            have HF2 := hidq (show M.fitT (c, q, 0) from ⟨hft.1, hqf, hft.2.2⟩)
            clear he1 he2 he3 he4 hm1 hp1 hmp hb hb2 x1 x2 x3 y1 X0 xc xf hft
            dsimp only at xc2
            generalize wr.alloc (.cells #[.int .i64 c, .int .i64 q, .int .i64 0] 39) = w2 at *
            generalize wr.heap.size = bx at *
            have hlook := run_lookT (c, q, 0) HF2.out hmp2
            rw [kfind_kpl A _ k (by rw [HN.out]; exact Nat.le_refl _), List.take_of_length_le (by rw [HN.out]; exact Nat.le_refl _)] at hlook
            have MP2 := hidq hmp2
            clear hmp2
            have hcons : F.tail.drop j = (c, (a : Int), 0) :: F.tail.drop (j + 1) := by
              have hjl : j < F.tail.length := by rw [hTl.out]; exact hlt
              rw [List.drop_eq_getElem_cons hjl]
              congr 1
              rw [← h1, ← at_tail]
              unfold M.at_
              rw [List.getElem?_eq_getElem hjl]
              rfl
            have hshf : M.shf ps1 (c, (a : Int), 0) = (c, q, 0) := by
              unfold M.shf
              dsimp only
              rw [Int.toNat_natCast, hq]
              rfl
            have hstep := HE1.out
            rw [hcons, M.putR, hshf] at hstep
            cases hpc : M.plc (c, q, 0) A with
            | some i =>
              rw [hpc] at hlook hstep
              rw [if_neg (by simp), M.plcI_some hpc] at hstep
              have HNx := hidq hstep
              have hiA := (M.plc_lt hpc).1
              have hi8 : (i : Int) ≤ 65536 := by have := HAm.out; have := HN.out; omega
              have HIF := hidq (show M.fitI i from ⟨by omega, by omega⟩)
              replace hlook : (Instr.lookup 62 (.map (some bm)) (.agg #[.int .i64 c, .int .i64 q, .int .i64 0]) true).run Tryz.prog w2 = .ok (.tuple #[.int .i64 i, .bool true]) w2 := hlook
              clear hpc hstep hcons hshf hq h1
              go_wp2_with (first | (at_builtin; refine wpList_append_sl (E := elInt) rfl _ _ rfl w.heap.size _ _ ps1 rfl (own_kept OP2.out (below_one (o := (.cells #[.int .i64 i] 3)) (Below.refl w2.heap.size w2))) _ [(i : Int)] rfl (Is.oneg w2 i _ (by first | rfl | simp) HIF.out) (by have := HE2.out; simp only [List.length_cons, List.length_nil]; omega) (by have := B2.out.size; simp; omega) ?_; intro v7 w7 hown7 hgrow7; have hnm := own_not_map (own_kept OP2.out (below_one (o := (.cells #[.int .i64 i] 3)) (Below.refl w2.heap.size w2))) (MP2.out.alloc (.cells #[.int .i64 i] 3)); have O7 := hidq ((own_kept OM2.out (below_one (o := (.cells #[.int .i64 i] 3)) (Below.refl w2.heap.size w2))).kept hgrow7 (own_apart14 (own_kept OM2.out (below_one (o := (.cells #[.int .i64 i] 3)) (Below.refl w2.heap.size w2))) (own_kept OP2.out (below_one (o := (.cells #[.int .i64 i] 3)) (Below.refl w2.heap.size w2))) (by decide))); have M7 := hidq ((MP2.out.alloc (.cells #[.int .i64 i] 3)).grown hgrow7 hnm); have P7 := hidq hown7; have B7 := hidq ((below_one (o := (.cells #[.int .i64 i] 3)) B2.out).grown hgrow7 (by have := B2.out.size; simp; omega) (fun q hq => (OP2.out.lt q hq).1)); clear hown7 hgrow7 hnm))
              go_roundw
              case rel => exact ⟨j + 1, L1, ps1 ++ [(i : Int)], by omega, by go_num, ⟨HNx.out, by simp [HE2.out], HE3.out, fun z hz => by
                rcases List.mem_append.1 hz with hz | hz
                · exact HE4.out z hz
                · simp at hz; subst hz; exact HIF.out⟩, O7.out, by rw [List.length_append]; exact P7.out, M7.out, B7.out⟩
              case measure => simp [intOf]; omega
            | none =>
              rw [hpc] at hlook hstep
              rw [if_pos rfl] at hstep
              replace hlook : (Instr.lookup 62 (.map (some bm)) (.agg #[.int .i64 c, .int .i64 q, .int .i64 0]) true).run Tryz.prog w2 = .ok (.tuple #[.int .i64 0, .bool false]) w2 := hlook
              by_cases hful : L1.length = 65536
              · rw [if_pos hful] at hstep
                simp only [Prod.mk.injEq] at hstep
                obtain ⟨rfl, rfl, rfl⟩ := hstep
                have hfb : ((L1.length : Int) == 65536) = true := by rw [hful]; rfl
                clear hpc hcons hshf hq h1 hful
                go_wp2
                go_ret3
                exact ⟨_, _, rfl, World.ownsRow_nil _ _ _ _, World.ownsRow_nil _ _ _ _, B2.out⟩
              · rw [if_neg hful] at hstep
                have HNx := hidq hstep
                have hfb : ((L1.length : Int) == 65536) = false := by rw [beq_eq_false_iff_ne]; omega
                have HLF := hidq (show M.fitI L1.length from ⟨by omega, by have := HE3.out; omega⟩)
                have hL8 := hidq (show L1.length + 1 ≤ 65536 by have := HE3.out; omega)
                clear hpc hstep hcons hshf hq h1 hful
                go_wp2_with (first | (at_builtin; refine wpList_append_sl (E := elTm) rfl _ _ rfl w.heap.size _ _ L1 rfl (own_kept OM2.out (below_one (o := (.cells #[.int .i64 c, .int .i64 q, .int .i64 0] 39)) (Below.refl w2.heap.size w2))) _ [(c, q, 0)] rfl (Ts.one w2 (c, q, 0) HF2.out) (by have := HE3.out; simp only [List.length_cons, List.length_nil]; omega) (by have := B2.out.size; simp; omega) ?_; intro v5 w5 hown5 hgrow5; have hnm := own_not_map (own_kept OM2.out (below_one (o := (.cells #[.int .i64 c, .int .i64 q, .int .i64 0] 39)) (Below.refl w2.heap.size w2))) (MP2.out.alloc (.cells #[.int .i64 c, .int .i64 q, .int .i64 0] 39)); have P5 := hidq ((own_kept OP2.out (below_one (o := (.cells #[.int .i64 c, .int .i64 q, .int .i64 0] 39)) (Below.refl w2.heap.size w2))).kept hgrow5 (own_apart14 (own_kept OP2.out (below_one (o := (.cells #[.int .i64 c, .int .i64 q, .int .i64 0] 39)) (Below.refl w2.heap.size w2))) (own_kept OM2.out (below_one (o := (.cells #[.int .i64 c, .int .i64 q, .int .i64 0] 39)) (Below.refl w2.heap.size w2))) (by decide))); have M5 := hidq ((MP2.out.alloc (.cells #[.int .i64 c, .int .i64 q, .int .i64 0] 39)).grown hgrow5 hnm); have O5 := hidq hown5; have B5 := hidq ((below_one (o := (.cells #[.int .i64 c, .int .i64 q, .int .i64 0] 39)) B2.out).grown hgrow5 (by have := B2.out.size; simp; omega) (fun q hq => (OM2.out.lt q hq).1)); clear hown5 hgrow5 hnm) | (at_builtin; refine wpList_append_sl (E := elInt) rfl _ _ rfl w.heap.size _ _ ps1 rfl (own_kept P5.out (below_one (o := (.cells #[.int .i64 L1.length] 3)) (Below.refl w5.heap.size w5))) _ [(L1.length : Int)] rfl (Is.oneg w5 L1.length _ (by first | rfl | simp) HLF.out) (by have := HE2.out; simp only [List.length_cons, List.length_nil]; omega) (by have := B5.out.size; simp; omega) ?_; intro v7 w7 hown7 hgrow7; have hnm := own_not_map (own_kept P5.out (below_one (o := (.cells #[.int .i64 L1.length] 3)) (Below.refl w5.heap.size w5))) (M5.out.alloc (.cells #[.int .i64 L1.length] 3)); have O7 := hidq ((own_kept O5.out (below_one (o := (.cells #[.int .i64 L1.length] 3)) (Below.refl w5.heap.size w5))).kept hgrow7 (own_apart14 (own_kept O5.out (below_one (o := (.cells #[.int .i64 L1.length] 3)) (Below.refl w5.heap.size w5))) (own_kept P5.out (below_one (o := (.cells #[.int .i64 L1.length] 3)) (Below.refl w5.heap.size w5))) (by decide))); have M7 := hidq ((M5.out.alloc (.cells #[.int .i64 L1.length] 3)).grown hgrow7 hnm); have P7 := hidq hown7; have B7 := hidq ((below_one (o := (.cells #[.int .i64 L1.length] 3)) B5.out).grown hgrow7 (by have := B5.out.size; simp; omega) (fun q hq => (P5.out.lt q hq).1)); clear hown7 hgrow7 hnm))
                go_roundw
                case rel => exact ⟨j + 1, L1 ++ [(c, q, 0)], ps1 ++ [(L1.length : Int)], by omega, by go_num, ⟨HNx.out, by simp [HE2.out], by rw [List.length_append]; exact hL8.out, fun z hz => by
                  rcases List.mem_append.1 hz with hz | hz
                  · exact HE4.out z hz
                  · simp at hz; subst hz; exact HLF.out⟩, by rw [List.length_append]; exact O7.out, by rw [List.length_append]; exact P7.out, M7.out, B7.out⟩
                case measure => simp [intOf]; omega
          · obtain rfl : j = m := by omega
            have hji : ¬ (j : Int) < j := by omega
            rw [List.drop_of_length_le (by rw [hTl.out]; exact Nat.le_refl _), M.putR] at he1
            simp only [Prod.mk.injEq] at he1
            obtain ⟨rfl, rfl, rfl⟩ := he1
            have OM2 := hidq hm1
            have OP2 := hidq hp1
            have B2 := hidq hb
            clear hm1 hp1 hb hmp he2 he3 he4
            go_wp2
            go_ret3
            exact ⟨_, _, rfl, OM2.out, OP2.out, B2.out⟩
end Go.Proofs.YthmiekinjfaflaaGreat
