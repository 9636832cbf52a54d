/-
  What one knows, as the program holds it ('Mind'); what learn comes to. Conditions: each theorem's own premises.
-/
import Derived.Test.YthkkclhjpgkhaaaY0
import Derived.Test.YthkkclhjpgkhaaaNL
import Derived.Test.YthkkclhjpgkhaaaV1
import Derived.Test.YthkkclhjpgkhaaaT10
namespace Go.Proofs.Ythkkclhjpgkhaaa
open Go.RowKit
/-- what one knows, as the program holds it: a block with the terms, the truth values of all places, and the places in order -/
def Mind (W : World) (T : Nat → Prop) (s B : Nat) (vt : Value) (n : Nat) (D : List Int) : Prop :=
  ∃ g vo, Bxs W B #[vt, .slice (some ⟨g, 0, none⟩) n n, vo] 52 ∧ W.ownsRow s 4 1 (.slice (some ⟨g, 0, none⟩) n n) n (elBool.cells (M.rowB (fun j => decide ((j : Int) ∈ D)) n)) ∧ W.ownsRow s 3 1 vo D.length (elInt.cells D) ∧ T B ∧ T g ∧ ∀ k, vo.ownBlock = some k → T k
theorem Mind.outs {W W' : World} {T T' : Nat → Prop} {s B : Nat} {vt : Value} {n : Nat} {D : List Int} (h : Mind W T s B vt n D) (ho : Outs T' W W') (hT : ∀ i, T i → i < W.heap.size → ¬ T' i) : Mind W' T s B vt n D := by
  obtain ⟨g, vo, h1, h2, h3, h4, h5, h6⟩ := h
  refine ⟨g, vo, h1.outs ho (hT B h4 h1.lt), own_outs h2 ho fun k hk => ?_, own_outs h3 ho fun k hk => hT k (h6 k hk) (h3.lt k hk).2, h4, h5, h6⟩
  cases hk
  exact hT g h5 (h2.lt g rfl).2
theorem Mind.below {W W' : World} {T : Nat → Prop} {s B : Nat} {vt : Value} {n : Nat} {D : List Int} (h : Mind W T s B vt n D) (hb : Below W.heap.size W W') : Mind W' T s B vt n D :=
  h.outs (T' := fun _ => False) (Outs.of_below hb) fun _ _ _ h => h
theorem Mind.mono {W : World} {T T' : Nat → Prop} {s B : Nat} {vt : Value} {n : Nat} {D : List Int} (h : Mind W T s B vt n D) (hT : ∀ i, T i → i < W.heap.size → T' i) : Mind W T' s B vt n D := by
  obtain ⟨g, vo, h1, h2, h3, h4, h5, h6⟩ := h
  exact ⟨g, vo, h1, h2, h3, hT B h4 h1.lt, hT g h5 (h2.lt g rfl).2, fun k hk => hT k (h6 k hk) (h3.lt k hk).2⟩
theorem M.row_more {D : List Int} {p n : Nat} : M.rowB (fun j => decide ((j : Int) ∈ D) || decide (j = p)) n = M.rowB (fun j => decide ((j : Int) ∈ D ++ [(p : Int)])) n :=
  M.rowB_congr fun j _ => by
    by_cases h1 : (j : Int) ∈ D <;> by_cases h2 : j = p
    · simp [h2]
    · simp [h1]
    · subst h2; simp
    · have : ¬ (j : Int) = p := by omega
      simp [h1, h2, this]
theorem is_oneq (W : World) (g : Nat) (hg : g = W.heap.size) (x : Int) (h : M.fitI x) : Is (W.alloc (.cells #[.int .i64 x] 3)) (.slice (some ⟨g, 0, none⟩) 1 1) [x] := by subst hg; exact Is.one W x h
/-- one more place is learnt -/
theorem mind_box {W w6 : World} {s B g n p : Nat} {vt vo : Value} {D : List Int} (h1 : Bxs W B #[vt, .slice (some ⟨g, 0, none⟩) n n, vo] 52)
    (h2 : W.ownsRow s 4 1 (.slice (some ⟨g, 0, none⟩) n n) n (elBool.cells (M.rowB (fun j => decide ((j : Int) ∈ D)) n))) (h3 : W.ownsRow s 3 1 vo D.length (elInt.cells D)) (o : Obj)
    (hg : ((W.setCell ⟨g, p, none⟩ (.bool true)).alloc o).grownBy w6 vo.ownBlock) : Bxs w6 B #[vt, .slice (some ⟨g, 0, none⟩) n n, vo] 52 := by
  have hBg : B ≠ g := fun e => h1.apart h2 (by decide) (by rw [e]; rfl)
  exact ((h1.other hBg p _).alloc o).grown hg fun e => h1.apart h3 (by decide) e.symm
theorem mind_more {W w6 : World} {T : Nat → Prop} {s B g n p : Nat} {vt vo v6 : Value} {D : List Int} (h1 : Bxs W B #[vt, .slice (some ⟨g, 0, none⟩) n n, vo] 52)
    (h2 : W.ownsRow s 4 1 (.slice (some ⟨g, 0, none⟩) n n) n (elBool.cells (M.rowB (fun j => decide ((j : Int) ∈ D)) n))) (h3 : W.ownsRow s 3 1 vo D.length (elInt.cells D)) (tB : T B) (tg : T g) (tO : ∀ k, vo.ownBlock = some k → T k) (hT : ∀ i, W.heap.size ≤ i → T i) (o : Obj)
    (hown : w6.ownsRow s 3 1 v6 (D.length + 1) (elInt.cells (D ++ [(p : Int)]))) (hg : ((W.setCell ⟨g, p, none⟩ (.bool true)).alloc o).grownBy w6 vo.ownBlock)
    (hf : ∀ k, v6.ownBlock = some k → vo.ownBlock = some k ∨ ((W.setCell ⟨g, p, none⟩ (.bool true)).alloc o).heap.size ≤ k) : Mind (w6.setCell ⟨B, 2, none⟩ v6) T s B vt n (D ++ [(p : Int)]) ∧ Outs T W (w6.setCell ⟨B, 2, none⟩ v6) := by
  have hX := mind_box (p := p) h1 h2 h3 o hg
  have hK : w6.ownsRow s 4 1 (.slice (some ⟨g, 0, none⟩) n n) n (elBool.cells (M.rowB (fun j => decide ((j : Int) ∈ D ++ [(p : Int)])) n)) := by
    rw [← M.row_more]
    refine ((ownB_store h2 p).alloc o).kept hg (.inr fun e => ?_)
    exact own_apartq h2 h3 (by decide) rfl e.symm
  have hOs : Outs (fun i => i = B) w6 (w6.setCell ⟨B, 2, none⟩ v6) := Outs.set w6 v6 rfl
  refine ⟨⟨g, v6, ?_, own_outs hK hOs fun k hk e => ?_, ?_, tB, tg, fun k hk => ?_⟩, ?_⟩
  · exact hX.set 2 v6
  · cases hk
    subst e
    exact hX.apart hK (by decide) rfl
  · rw [List.length_append, List.length_singleton]
    exact own_outs hown hOs fun k hk e => by subst e; exact hX.apart hown (by decide) hk
  · rcases hf k hk with e | e
    · exact tO k e
    · exact hT k (by simp at e; omega)
  · exact ((Outs.set W _ tg).trans (Outs.alloc _ o)).trans ((Outs.of_grown hg tO).trans (Outs.set w6 v6 tB))
set_option maxRecDepth 100000 in
set_option maxHeartbeats 4000000 in
theorem learn_any (T : Nat → Prop) (s B : Nat) (vt : Value) (n : Nat) (D L : List Int) (v : Value) (w : World) (hM : Mind w T s B vt n D) (hT : ∀ i, w.heap.size ≤ i → T i) (hs : s ≤ w.heap.size)
    (hn : n ≤ 65536) (hD : M.Gd n D) (hL : ∀ x ∈ L, 0 ≤ x ∧ x < (n : Int)) (u : ∀ X, Outs T w X → Is X v L) :
    Calls Try.prog 39 #[.pointer (some ⟨B, 0, none⟩), v] w fun e w' => e = .returned (.tuple #[]) ∧ Mind w' T s B vt n (M.lrn D L) ∧ Outs T w w' := by
  have u0 := u w (Outs.refl _ _)
  obtain ⟨a1, c1, rfl, hp1, hp2, hp4⟩ := u0.form
  have hm : L.length ≤ maxLen := by omega
  unfold maxLen at hm
  have U := hidq u
  have HP4 := hidq hp4
  have HM := hidq hM
  have HT := hidq hT
  have HD := hidq hD
  have HL := hidq hL
  clear u u0 hp4 hM hT hD hL
  generalize hl : L.length = m at *
  have HN := hidq hl
  clear hl
  go_enter Try.func39, Try.ntmps39
  go_wp2
  go_loopw [8] (fun x wr => ∃ k : Nat, k ≤ m ∧ x = .int .i64 k ∧ Mind wr T s B vt n (M.lrn D (L.take k)) ∧ Outs T w wr) (fun x _ => m - (intOf x).toNat)
  case atStart => exact ⟨0, by omega, rfl, HM.out, Outs.refl _ _⟩
  case round =>
    obtain ⟨k, hk, rfl, hmd, hou⟩ := hrel
    have HO := hidq hou
    have hsz := hou.size
    by_cases hlt : k < m
    · obtain ⟨b1, o1, rfl⟩ := HP4.out (by omega)
      have hkl : k < L.length := by rw [HN.out]; exact hlt
      obtain ⟨x, hx⟩ : ∃ x, L[k]? = some x := ⟨_, List.getElem?_eq_getElem hkl⟩
      have c1 := Is.cellq (U.out _ hou) hx
      have hxb := HL.out x (List.mem_of_getElem? hx)
      have HNX := hidq (M.lrn_next D L k x hx)
      have hGd : M.Gd n (M.lrn D (L.take k)) := HD.out.lrn fun y hy => HL.out y (List.mem_of_mem_take hy)
      have hdl := hGd.len
      have HMD := hidq hmd
      clear hx hmd hou hkl hGd
      generalize M.lrn D (L.take k) = D1 at *
      obtain ⟨p, rfl⟩ : ∃ p : Nat, x = p := ⟨x.toNat, by omega⟩
      have hpn : p < n := by omega
      obtain ⟨g, vo, h1, h2, h3, tB, tg, tO⟩ := HMD.out
      have q1 := h1.cell 1
      have q2 := ownB_cell h2 hpn
      have hpi : (p : Int) < n := by omega
      by_cases hd : (p : Int) ∈ D1
      · rw [decide_eq_true hd] at q2
        rw [M.lrn1_yes hd] at HNX
        clear h1 h2 h3 hd
        go_wp2
        go_roundw
        case rel => exact ⟨k + 1, by omega, by go_num, by rw [HNX.out]; exact HMD.out, HO.out⟩
        case measure => simp [intOf]; omega
      · rw [decide_eq_false hd] at q2
        rw [M.lrn1_no hd] at HNX
        have q3 := h2.frozenAt p
        have hBg : B ≠ g := fun e => h1.apart h2 (by decide) (by rw [e]; rfl)
        have q4 := (h1.other hBg p (.bool true)).cell 2
        have H1 := hidq h1
        have H2 := hidq h2
        have H3 := hidq h3
        have HK1 := hidq (show (wr.setCell ⟨g, p, none⟩ (.bool true)).ownsRow s 3 1 vo D1.length (elInt.cells D1) from (h3.kept (grownq_set wr g p _) (.inr fun e => own_apartq h2 h3 (by decide) rfl e)))
        have hfit : M.fitI (p : Int) := ⟨by omega, by omega⟩
        have HFI := hidq hfit
        clear h1 h2 h3 hd hfit hxb
        go_wp2_with (first | (at_builtin; refine wpList_append_fr (E := elInt) rfl _ _ rfl s _ _ D1 rfl (HK1.out.alloc _) _ [(p : Int)] rfl (is_oneq _ _ (by simp) _ HFI.out) (by simp only [List.length_cons, List.length_nil]; omega) (by simp; omega) ?_; intro v6 w6 hown6 hgrow6 hfr6; obtain ⟨ao6, cap6, rfl, _⟩ := own_formq hown6; have hX6 := mind_box H1.out H2.out H3.out _ hgrow6; have q6 := hX6.cell 2; have q7 := hX6.frozen 2; have hMM := hidq (mind_more H1.out H2.out H3.out tB tg tO (fun i hi => HT.out i (by omega)) _ hown6 hgrow6 hfr6); clear hown6 hgrow6 hfr6 hX6))
        go_roundw
        case rel => exact ⟨k + 1, by omega, by go_num, by rw [HNX.out]; exact hMM.out.1, HO.out.trans hMM.out.2⟩
        case measure => simp [intOf]; omega
    · obtain rfl : k = m := by omega
      have e : L.take k = L := List.take_of_length_le (by rw [HN.out]; omega)
      rw [e] at hmd
      have HMD := hidq hmd
      clear hmd hou e
      go_wp2
      go_end0
      exact ⟨rfl, HMD.out, HO.out⟩
end Go.Proofs.Ythkkclhjpgkhaaa
