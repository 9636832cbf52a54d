/-
  Plain mathematics for layer 12: subsets in order; one list in order of each as often; sums over lists that are the same but for their order. No condition.
-/
import Derived.Test.YtmicgojojkkkhaaGreatZJ0
import Derived.Test.YtmicgojojkkkhaaGreatZJ3
namespace Go.Proofs.YtmicgojojkkkhaaGreat.M
/-! ### order -/
def ltS (x y : Int × Int) : Bool := lssB x.1 x.2 y.1 y.2
theorem ltS_iff {x y : Int × Int} : ltS x y = true ↔ x.1 < y.1 ∨ (x.1 = y.1 ∧ x.2 < y.2) := by
  unfold ltS lssB
  simp [Bool.or_eq_true, Bool.and_eq_true]
theorem ltS_no {x y : Int × Int} : ltS x y = false ↔ y.1 < x.1 ∨ (x.1 = y.1 ∧ y.2 ≤ x.2) := by
  rw [Bool.eq_false_iff, Ne, ltS_iff]; omega
theorem ltS_anti {x y : Int × Int} (h1 : ltS x y = false) (h2 : ltS y x = false) : x = y := by
  rw [ltS_no] at h1 h2
  obtain ⟨a, b⟩ := x
  obtain ⟨c, d⟩ := y
  dsimp only at h1 h2
  have e1 : a = c := by omega
  have e2 : b = d := by omega
  rw [e1, e2]
/-- in its place -/
def ins (s : Int × Int) (X : List (Int × Int)) : List (Int × Int) := X.takeWhile (fun x => !ltS s x) ++ s :: X.dropWhile (fun x => !ltS s x)
def srt (X : List (Int × Int)) : List (Int × Int) := X.foldl (fun acc s => ins s acc) []
/-- in order: none is ahead of one before it -/
def Ord (X : List (Int × Int)) : Prop := X.Pairwise fun x y => ltS y x = false
theorem ins_ord {s : Int × Int} : ∀ {X : List (Int × Int)}, Ord X → Ord (ins s X)
  | [], _ => by unfold ins Ord; simp
  | x :: t, h => by
    obtain ⟨h1, h2⟩ := List.pairwise_cons.1 h
    unfold ins
    rw [List.takeWhile_cons, List.dropWhile_cons]
    cases hx : ltS s x with
    | true =>
      show Ord (s :: x :: t)
      refine List.pairwise_cons.2 ⟨fun y hy => ?_, h⟩
      rcases List.mem_cons.1 hy with rfl | hy
      · rw [ltS_iff] at hx; rw [ltS_no]; omega
      · have := h1 y hy
        rw [ltS_iff] at hx
        rw [ltS_no] at this ⊢; omega
    | false =>
      show Ord (x :: ins s t)
      refine List.pairwise_cons.2 ⟨fun y hy => ?_, ins_ord h2⟩
      unfold ins at hy
      rcases List.mem_append.1 hy with hy | hy
      · exact h1 y ((List.takeWhile_prefix _).subset hy)
      · rcases List.mem_cons.1 hy with rfl | hy
        · exact hx
        · exact h1 y ((List.dropWhile_suffix _).subset hy)
theorem ins_perm (s : Int × Int) (X : List (Int × Int)) : (ins s X).Perm (s :: X) := by
  unfold ins
  have h := List.perm_middle (a := s) (l₁ := X.takeWhile fun x => !ltS s x) (l₂ := X.dropWhile fun x => !ltS s x)
  rwa [List.takeWhile_append_dropWhile] at h
theorem srt_fold : ∀ (X A : List (Int × Int)), Ord A → Ord (X.foldl (fun acc s => ins s acc) A) ∧ (X.foldl (fun acc s => ins s acc) A).Perm (A ++ X)
  | [], A, h => by simp [h]
  | x :: t, A, h => by
    obtain ⟨h1, h2⟩ := srt_fold t (ins x A) (ins_ord h)
    refine ⟨h1, h2.trans ?_⟩
    have h3 := (ins_perm x A).append_right t
    exact h3.trans (List.perm_middle (a := x) (l₁ := A) (l₂ := t)).symm
theorem srt_ord (X : List (Int × Int)) : Ord (srt X) := (srt_fold X [] List.Pairwise.nil).1
theorem srt_perm (X : List (Int × Int)) : (srt X).Perm X := by
  have := (srt_fold X [] List.Pairwise.nil).2
  rw [List.nil_append] at this
  exact this
theorem srt_length (X : List (Int × Int)) : (srt X).length = X.length := (srt_perm X).length_eq
theorem srt_mem {X : List (Int × Int)} {x : Int × Int} : x ∈ srt X ↔ x ∈ X := (srt_perm X).mem_iff
/-- in order, and each as often: one list -/
theorem ord_eq : ∀ {A B : List (Int × Int)}, Ord A → Ord B → A.Perm B → A = B
  | [], B, _, _, h => (List.nil_perm.1 h).symm
  | a :: t, [], _, _, h => by have := h.length_eq; simp at this
  | a :: t, b :: u, ha, hb, h => by
    obtain ⟨a1, a2⟩ := List.pairwise_cons.1 ha
    obtain ⟨b1, b2⟩ := List.pairwise_cons.1 hb
    have e : a = b := by
      have hx : a ∈ b :: u := h.mem_iff.1 (by simp)
      have hy : b ∈ a :: t := h.mem_iff.2 (by simp)
      rcases List.mem_cons.1 hx with e | hx
      · exact e
      · rcases List.mem_cons.1 hy with e | hy
        · exact e.symm
        · exact ltS_anti (b1 a hx) (a1 b hy)
    subst e
    rw [ord_eq a2 b2 ((List.perm_cons a).1 h)]
theorem srt_of_ord {X : List (Int × Int)} (h : Ord X) : srt X = X := ord_eq (srt_ord X) h (srt_perm X)
theorem ord_of_rise {X : List (Int × Int)} (h : X.Pairwise fun s t => s.1 < t.1) : Ord X := h.imp fun hx => by rw [ltS_no]; omega
theorem srt_of_perm {X Y : List (Int × Int)} (h : X.Perm Y) : srt X = srt Y := ord_eq (srt_ord X) (srt_ord Y) ((srt_perm X).trans (h.trans (srt_perm Y).symm))
theorem Sg_perm {α : Type} {f : α → Int} {A B : List α} (h : A.Perm B) : Sg f A = Sg f B := by
  induction h with
  | nil => rfl
  | cons x _ ih => rw [Sg, Sg, ih]
  | swap x y l => rw [Sg, Sg, Sg, Sg]; omega
  | trans _ _ h1 h2 => rw [h1, h2]
theorem Sg_flat {α β : Type} (f : β → Int) (g : α → List β) : ∀ X : List α, Sg f (X.flatMap g) = Sg (fun n => Sg f (g n)) X
  | [] => rfl
  | x :: t => by rw [List.flatMap_cons, Sg_append, Sg_flat f g t]; rfl
/-- the insertion, step by step -/
theorem ins_take (s : Int × Int) (X : List (Int × Int)) (m : Nat) (hm : m ≤ X.length) (h1 : ∀ q x, q < m → X[q]? = some x → ltS s x = false) (h2 : ∀ x, X[m]? = some x → ltS s x = true) : ins s X = X.take m ++ s :: X.drop m := by
  induction X generalizing m with
  | nil => simp at hm; subst hm; rfl
  | cons x t ih =>
    unfold ins
    rw [List.takeWhile_cons, List.dropWhile_cons]
    match m, hm, h1, h2 with
    | 0, _, _, h2 =>
      have := h2 x (by simp)
      rw [this]; rfl
    | m + 1, hm, h1, h2 =>
      have hx := h1 0 x (by omega) (by simp)
      rw [hx]
      have := ih m (by simpa using hm) (fun q y hq hy => h1 (q + 1) y (by omega) (by simpa using hy)) (fun y hy => h2 y (by simpa using hy))
      unfold ins at this
      show x :: (List.takeWhile (fun x => !ltS s x) t ++ s :: List.dropWhile (fun x => !ltS s x) t) = _
      rw [this]; rfl
/-- where it comes -/
theorem ins_place (s : Int × Int) (X : List (Int × Int)) : ∃ m, m ≤ X.length ∧ (∀ q x, q < m → X[q]? = some x → ltS s x = false) ∧ (∀ x, X[m]? = some x → ltS s x = true) := by
  induction X with
  | nil => exact ⟨0, by simp, fun q x hq => by omega, fun x hx => by simp at hx⟩
  | cons x t ih =>
    cases hx : ltS s x with
    | true => exact ⟨0, by simp, fun q y hq => by omega, fun y hy => by simp at hy; subst hy; exact hx⟩
    | false =>
      obtain ⟨m, h1, h2, h3⟩ := ih
      refine ⟨m + 1, by simpa using h1, fun q y hq hy => ?_, fun y hy => h3 y (by simpa using hy)⟩
      match q, hq, hy with
      | 0, _, hy => simp at hy; subst hy; exact hx
      | q + 1, hq, hy => exact h2 q y (by omega) (by simpa using hy)
theorem srt_take (X : List (Int × Int)) (k : Nat) (s : Int × Int) (hk : X[k]? = some s) : srt (X.take (k + 1)) = ins s (srt (X.take k)) := by
  unfold srt
  rw [List.take_add_one, hk, List.foldl_append]; rfl
end Go.Proofs.YtmicgojojkkkhaaGreat.M
namespace Go.Proofs.YtmicgojojkkkhaaGreat
open Go.RowKit
set_option maxRecDepth 100000 in
theorem row_ins {W : World} {base k n : Nat} {v : Value} {A D Z : List (Int × Int)} {s : Int × Int} (h : W.ownsRow base 25 2 v n (elSub.cells (([] ++ A ++ [s]) ++ D))) (hn : n = k + 1) (hZ : A ++ s :: D = Z) :
    W.ownsRow base 25 2 v (k + 1) (elSub.cells Z) := by
  subst hn hZ
  rw [List.nil_append, List.append_assoc] at h
  exact h
theorem sl_front {W : World} {b off k cap m : Nat} {P : List (Int × Int)} (h : Ss W (.slice (some ⟨b, off, none⟩) k cap) P) (h1 : m ≤ k) (h2 : 0 < cap) : Ss W (.slice (some ⟨b, off, none⟩) m cap) (P.take m) := by
  have hc : k ≤ cap := by obtain ⟨ao, c, e, q1, -⟩ := h; cases e; exact q1
  have := Sl.part h 0 m cap (by omega) h1 (by omega) (Nat.le_refl _) h2
  simpa using this
theorem sl_back {W : World} {b off k cap m : Nat} {P : List (Int × Int)} (h : Ss W (.slice (some ⟨b, off, none⟩) k cap) P) (hk : P.length = k) (h1 : m ≤ k) (h2 : 0 < cap) : Ss W (.slice (some ⟨b, off + m * 2, none⟩) (k - m) (cap - m)) (P.drop m) := by
  have hc : k ≤ cap := by obtain ⟨ao, c, e, q1, -⟩ := h; cases e; exact q1
  have := Sl.part h m k (cap - m) h1 (Nat.le_refl _) (by omega) (by omega) h2
  rwa [List.take_of_length_le (by rw [List.length_drop]; omega)] at this
set_option maxRecDepth 100000 in
set_option maxHeartbeats 4000000 in
theorem rorder_all (X : List (Int × Int)) (v : Value) (w : World) (hu : Ss w v X) (hX : X.length ≤ 160000) :
    Calls Tryz.prog 22 #[v] w fun e w' => ∃ v', e = .returned v' ∧ Ss w' v' (M.srt X) ∧ Below w.heap.size w w' := by
  obtain ⟨ao, cap, rfl, hc1, -, hp⟩ := hu.form
  have U := hidq hu
  have HF := hidq (fun x hx => hu.oks x hx)
  have HP := hidq hp
  have HX := hidq hX
  have HC := hidq hc1
  clear hu hp hX hc1
  generalize hN : X.length = N at *
  have HN := hidq hN
  clear hN
  go_enter Tryz.func22, Tryz.ntmps22
  go_wp2
  go_loopw [10, 3] (fun i x wr => ∃ k : Nat, k ≤ N ∧ i = .int .i64 k ∧ (k = 0 → x = .slice none 0 0) ∧ wr.ownsRow w.heap.size 25 2 x k (elSub.cells (M.srt (X.take k))) ∧ Below w.heap.size w wr) (fun i _ _ => N - (intOf i).toNat)
  case atStart => exact ⟨0, by omega, rfl, fun _ => rfl, World.ownsRow_nil _ _ _ _, Below.refl _ _⟩
  case round =>
    obtain ⟨k, hk, rfl, hk0, hown, hb⟩ := hrel
    obtain ⟨wz, hwz⟩ : ∃ wz, wz = wr := ⟨_, rfl⟩
    subst hwz
    have BX := hidq hb
    by_cases hkn : k < N
    · have hki : (k : Int) < N := by omega
      have hN8 := HX.out
      obtain ⟨bF, oF, rfl⟩ := HP.out (by have := HC.out; omega)
      obtain ⟨s, hs⟩ : ∃ s, X[k]? = some s := ⟨_, List.getElem?_eq_getElem (by rw [HN.out]; exact hkn)⟩
      obtain ⟨x1, x2⟩ := Ss.at (U.out.below hb) hs
      have hST := M.srt_take X k s hs
      have FS := hidq (HF.out s (List.mem_of_getElem? hs))
      have HFP := hidq (fun x (hx : x ∈ M.srt (X.take k)) => HF.out x (List.mem_of_mem_take (M.srt_mem.1 hx)))
      have hkl : (M.srt (X.take k)).length = k := by rw [M.srt_length, List.length_take, HN.out]; omega
      generalize M.srt (X.take k) = P at *
      obtain ⟨m, m1, m2, m3⟩ := M.ins_place s P
      have hins := M.ins_take s P m m1 m2 m3
      rw [hins] at hST
      rw [hkl] at m1
      have HZZ := hidq hST
      have HM2 := hidq m2
      have HM3 := hidq m3
      obtain ⟨s1, s2⟩ := s
      dsimp only at x1 x2
      have SX := hidq (Bi.new wz 25 s1 s2)
      have OX := hidq (own_form2 hown HFP.out)
      have RX := hidq (below_one (o := (.cells #[.int .u64 s1, .int .u64 s2] 25)) hb)
      have RW := hidq (below_one (o := (.cells #[.int .u64 s1, .int .u64 s2] 25)) (Below.refl wz.heap.size wz))
      have HKL := hidq hkl
      have T1 := hidq trivial
      have T2 := hidq trivial
      clear hST hins m2 m3
      by_cases hz : k = 0
      · obtain rfl := hk0 hz
        subst hz
        obtain rfl : m = 0 := by omega
        obtain rfl : P = [] := List.eq_nil_of_length_eq_zero HKL.out
        clear hs hb hown hk0 hkl
        simp only [Nat.zero_mul, Nat.add_zero] at x1 x2
        have hN0 : (0 : Int) < N := by omega
        go_wp2
        go_loopw [6] (fun a wq => ∃ (q : Nat), q ≤ 0 ∧ a = .int .i64 q ∧ Below (wz.alloc (.cells #[.int .u64 s1, .int .u64 s2] 25)).heap.size (wz.alloc (.cells #[.int .u64 s1, .int .u64 s2] 25)) wq) (fun a _ => 0 - (intOf a).toNat)
        case atStart => exact ⟨0, by omega, rfl, Below.refl _ _⟩
        case round =>
          obtain ⟨q, hq, rfl, hbq⟩ := hrel
          have SQ := hidq (SX.out.below hbq)
          have OQ := hidq ((OX.out.below RW.out).below hbq)
          obtain ⟨G, HG, HFc, HOc, HW, ne⟩ := clq_of (wz.alloc (.cells #[.int .u64 s1, .int .u64 s2] 25)) wr (fun X' => Bi X' wz.heap.size 25 s1 s2 ∧ Ss X' (.slice none 0 0) ([] : List (Int × Int))) (fun _ _ h hb => ⟨h.1.below hb, h.2.below hb⟩) ⟨SQ.out, OQ.out⟩ hbq
          have h1c := fun c : Clq G => (HFc.out c).1.facts.1
          have h2c := fun c : Clq G => (HFc.out c).1.facts.2
          · obtain rfl : q = 0 := by omega
            have hqi : ¬ (((0 : Nat) : Int) < ((0 : Nat) : Int)) := by omega
            clear hbq
            go_wp2
            refine regionq (by kernel_rfl) (by kernel_rfl) HW.out ?_
            repeat (go_big_quiet_step (fail))
            refine wpQuiet_nil ?_
            rintro _ ⟨s9, rfl⟩
            have SQ := hidq (HFc.out s9).1
            have HZ := hidq (show wz.heap.size ≤ s9.W.heap.size by have := (HOc.out s9).size; simp at this; omega)
            have OA := hidq (HFc.out s9).2
            have OD := hidq (show Ss s9.W (.slice none 0 0) [] from Sl.nil _ _)
            have HLA := hidq (show ([] : List (Int × Int)).length ≤ 160000 by simp)
            have HLD := hidq (show ([] : List (Int × Int)).length ≤ 160000 by simp)
            have BQ := hidq (below_trans RX.out (HOc.out s9))
            obtain ⟨SQa, SQb⟩ := SQ.out.facts
            generalize s9.W = W9 at *
            clear h1c h2c
            go_wp2_with (first | (at_builtin; clear T1; refine wpList_append_sl (E := elSub) rfl _ _ rfl W9.heap.size _ 0 [] rfl (World.ownsRow_nil _ _ _ _) _ _ rfl OA.out (by have := HLA.out; (try simp only [List.length_nil]); omega) (Nat.le_refl _) ?_; intro v1 w1 hown1 hgrow1; have O1 := hidq hown1; have G1 := hidq ((Below.refl W9.heap.size W9).grown hgrow1 (Nat.le_refl _) (fun q hq => by cases hq)); have S1 := SQ.out.below G1.out; obtain ⟨S1a, S1b⟩ := S1.facts; clear hown1 hgrow1) | (at_builtin; clear T2; refine wpList_append_sl (E := elSub) rfl _ _ rfl W9.heap.size _ _ _ rfl (own_kept O1.out (below_one (o := (.cells #[.int .u64 s1, .int .u64 s2] 25)) (Below.refl w1.heap.size w1))) _ [(s1, s2)] rfl (Ss.oneq _ _ s1 s2 _ (by first | rfl | simp) FS.out) (by have := HLA.out; simp only [List.length_cons, List.length_nil]; omega) (by have := G1.out.size; simp; omega) ?_; intro v2 w2 hown2 hgrow2; have O2 := hidq hown2; have G2 := hidq ((below_one (o := (.cells #[.int .u64 s1, .int .u64 s2] 25)) G1.out).grown hgrow2 (by have := G1.out.size; simp; omega) (fun q hq => (O1.out.lt q hq).1)); clear hown2 hgrow2) | (at_builtin; refine wpList_append_sl (E := elSub) rfl _ _ rfl W9.heap.size _ _ _ rfl O2.out _ _ rfl (OD.out.below G2.out) (by have := HLA.out; have := HLD.out; simp only [List.length_cons, List.length_nil]; omega) G2.out.size ?_; intro v3 w3 hown3 hgrow3; have O3 := hidq hown3; have B3 := hidq (below_trans BQ.out (G2.out.grown hgrow3 G2.out.size (fun q hq => (O2.out.lt q hq).1))); clear hown3 hgrow3))
            go_roundw
            case rel => exact ⟨0 + 1, by omega, by go_num, fun h => absurd h (by omega), row_ins (own_lower O3.out BQ.out.size) (by simp) (HZZ.out.symm), B3.out⟩
            case measure => simp [intOf]; omega
      · obtain ⟨a2, c2, rfl, kc2, mc2, v2⟩ := OX.out.form
        rw [hkl] at kc2 OX
        obtain ⟨bO, oO, rfl⟩ := v2 (by omega)
        rw [hkl]
        have hc0 : ¬ c2 = 0 := by omega
        have hbO := hidq (Sl.block OX.out (by rw [hkl]; omega))
        unfold maxLen at mc2
        clear hs hb hown hk0 v2 hkl
        by_cases hmk : m = k
        · subst hmk
          by_cases hck : c2 = m
          · clear mc2 kc2
            subst hck
            go_wp2
            go_loopw [6] (fun a wq => ∃ (q : Nat), q ≤ c2 ∧ a = .int .i64 q ∧ Below (wz.alloc (.cells #[.int .u64 s1, .int .u64 s2] 25)).heap.size (wz.alloc (.cells #[.int .u64 s1, .int .u64 s2] 25)) wq) (fun a _ => c2 - (intOf a).toNat)
            case atStart => exact ⟨0, by omega, rfl, Below.refl _ _⟩
            case round =>
              obtain ⟨q, hq, rfl, hbq⟩ := hrel
              have SQ := hidq (SX.out.below hbq)
              have OQ := hidq ((OX.out.below RW.out).below hbq)
              obtain ⟨G, HG, HFc, HOc, HW, ne⟩ := clq_of (wz.alloc (.cells #[.int .u64 s1, .int .u64 s2] 25)) wr (fun X' => Bi X' wz.heap.size 25 s1 s2 ∧ Ss X' (.slice (some ⟨bO, oO, none⟩) c2 c2) P) (fun _ _ h hb => ⟨h.1.below hb, h.2.below hb⟩) ⟨SQ.out, OQ.out⟩ hbq
              have h1c := fun c : Clq G => (HFc.out c).1.facts.1
              have h2c := fun c : Clq G => (HFc.out c).1.facts.2
              by_cases hqk : q < c2
              · have hqi : (q : Int) < c2 := by omega
                obtain ⟨x, hxt⟩ : ∃ x, P[q]? = some x := ⟨_, List.getElem?_eq_getElem (by rw [HKL.out]; omega)⟩
                have hlt : M.lssB s1 s2 x.1 x.2 = false := HM2.out q x hqk hxt
                have hfx := HFP.out x (List.mem_of_getElem? hxt)
                obtain ⟨y, z⟩ := x
                have LC := hidq (fun W => rless8_any s1 s2 y z W ⟨FS.out.1, FS.out.2.1⟩ ⟨FS.out.2.2.1, FS.out.2.2.2⟩ ⟨hfx.1, hfx.2.1⟩ ⟨hfx.2.2.1, hfx.2.2.2⟩)
                rw [hlt] at LC
                have h3c := fun c : Clq G => (Ss.at (HFc.out c).2 hxt).1
                have h4c := fun c : Clq G => (Ss.at (HFc.out c).2 hxt).2
                dsimp only at h3c h4c
                clear hxt hlt hfx
                have hqw : IntKind.i64.wrap ((q : Int) + 1) = (q : Int) + 1 := by rw [IntKind.wrap_i64]; omega
                clear hbq
                go_wp2
                refine regionq (by kernel_rfl) (by kernel_rfl) HW.out ?_
                repeat (go_big_quiet_step (first | (go_at_call 54; exact quietq HG.out _ (LC.out _))))
                refine wpQuiet_nil ?_
                rintro _ ⟨s9, rfl⟩
                have hB9 := hidq (HOc.out s9)
                go_wp2
                go_roundw
                case rel => exact ⟨q + 1, by omega, by go_num, hB9.out⟩
                case measure => simp [intOf]; omega
              · obtain rfl : q = c2 := by omega
                have hqi : ¬ ((q : Int) < q) := by omega
                clear hbq
                go_wp2
                refine regionq (by kernel_rfl) (by kernel_rfl) HW.out ?_
                repeat (go_big_quiet_step (fail))
                refine wpQuiet_nil ?_
                rintro _ ⟨s9, rfl⟩
                have SQ := hidq (HFc.out s9).1
                have HZ := hidq (show wz.heap.size ≤ s9.W.heap.size by have := (HOc.out s9).size; simp at this; omega)
                have OA := hidq (HFc.out s9).2
                have OD := hidq (show Ss s9.W (.slice (some ⟨bO, oO, none⟩) 0 0) [] from Sl.empty)
                have HLA := hidq (show P.length ≤ 160000 by rw [HKL.out]; omega)
                have HLD := hidq (show ([] : List (Int × Int)).length ≤ 160000 by simp)
                have BQ := hidq (below_trans RX.out (HOc.out s9))
                obtain ⟨SQa, SQb⟩ := SQ.out.facts
                generalize s9.W = W9 at *
                clear h1c h2c
                go_wp2_with (first | (at_builtin; clear T1; refine wpList_append_sl (E := elSub) rfl _ _ rfl W9.heap.size _ 0 [] rfl (World.ownsRow_nil _ _ _ _) _ _ rfl OA.out (by have := HLA.out; (try simp only [List.length_nil]); omega) (Nat.le_refl _) ?_; intro v1 w1 hown1 hgrow1; have O1 := hidq hown1; have G1 := hidq ((Below.refl W9.heap.size W9).grown hgrow1 (Nat.le_refl _) (fun q hq => by cases hq)); have S1 := SQ.out.below G1.out; obtain ⟨S1a, S1b⟩ := S1.facts; clear hown1 hgrow1) | (at_builtin; clear T2; refine wpList_append_sl (E := elSub) rfl _ _ rfl W9.heap.size _ _ _ rfl (own_kept O1.out (below_one (o := (.cells #[.int .u64 s1, .int .u64 s2] 25)) (Below.refl w1.heap.size w1))) _ [(s1, s2)] rfl (Ss.oneq _ _ s1 s2 _ (by first | rfl | simp) FS.out) (by have := HLA.out; simp only [List.length_cons, List.length_nil]; omega) (by have := G1.out.size; simp; omega) ?_; intro v2 w2 hown2 hgrow2; have O2 := hidq hown2; have G2 := hidq ((below_one (o := (.cells #[.int .u64 s1, .int .u64 s2] 25)) G1.out).grown hgrow2 (by have := G1.out.size; simp; omega) (fun q hq => (O1.out.lt q hq).1)); clear hown2 hgrow2) | (at_builtin; refine wpList_append_sl (E := elSub) rfl _ _ rfl W9.heap.size _ _ _ rfl O2.out _ _ rfl (OD.out.below G2.out) (by have := HLA.out; have := HLD.out; simp only [List.length_cons, List.length_nil]; omega) G2.out.size ?_; intro v3 w3 hown3 hgrow3; have O3 := hidq hown3; have B3 := hidq (below_trans BQ.out (G2.out.grown hgrow3 G2.out.size (fun q hq => (O2.out.lt q hq).1))); clear hown3 hgrow3))
                go_roundw
                case rel => exact ⟨q + 1, by omega, by go_num, fun h => absurd h (by omega), row_ins (own_lower O3.out BQ.out.size) (by simp [HKL.out]) (by rw [HZZ.out, List.take_of_length_le (Nat.le_of_eq HKL.out), List.drop_of_length_le (Nat.le_of_eq HKL.out)]), B3.out⟩
                case measure => simp [intOf]; omega
          · have hck2 : ¬ c2 - m = 0 := by omega
            go_wp2
            go_loopw [6] (fun a wq => ∃ (q : Nat), q ≤ m ∧ a = .int .i64 q ∧ Below (wz.alloc (.cells #[.int .u64 s1, .int .u64 s2] 25)).heap.size (wz.alloc (.cells #[.int .u64 s1, .int .u64 s2] 25)) wq) (fun a _ => m - (intOf a).toNat)
            case atStart => exact ⟨0, by omega, rfl, Below.refl _ _⟩
            case round =>
              obtain ⟨q, hq, rfl, hbq⟩ := hrel
              have SQ := hidq (SX.out.below hbq)
              have OQ := hidq ((OX.out.below RW.out).below hbq)
              obtain ⟨G, HG, HFc, HOc, HW, ne⟩ := clq_of (wz.alloc (.cells #[.int .u64 s1, .int .u64 s2] 25)) wr (fun X' => Bi X' wz.heap.size 25 s1 s2 ∧ Ss X' (.slice (some ⟨bO, oO, none⟩) m c2) P) (fun _ _ h hb => ⟨h.1.below hb, h.2.below hb⟩) ⟨SQ.out, OQ.out⟩ hbq
              have h1c := fun c : Clq G => (HFc.out c).1.facts.1
              have h2c := fun c : Clq G => (HFc.out c).1.facts.2
              by_cases hqk : q < m
              · have hqi : (q : Int) < m := by omega
                obtain ⟨x, hxt⟩ : ∃ x, P[q]? = some x := ⟨_, List.getElem?_eq_getElem (by rw [HKL.out]; omega)⟩
                have hlt : M.lssB s1 s2 x.1 x.2 = false := HM2.out q x hqk hxt
                have hfx := HFP.out x (List.mem_of_getElem? hxt)
                obtain ⟨y, z⟩ := x
                have LC := hidq (fun W => rless8_any s1 s2 y z W ⟨FS.out.1, FS.out.2.1⟩ ⟨FS.out.2.2.1, FS.out.2.2.2⟩ ⟨hfx.1, hfx.2.1⟩ ⟨hfx.2.2.1, hfx.2.2.2⟩)
                rw [hlt] at LC
                have h3c := fun c : Clq G => (Ss.at (HFc.out c).2 hxt).1
                have h4c := fun c : Clq G => (Ss.at (HFc.out c).2 hxt).2
                dsimp only at h3c h4c
                clear hxt hlt hfx
                have hqw : IntKind.i64.wrap ((q : Int) + 1) = (q : Int) + 1 := by rw [IntKind.wrap_i64]; omega
                clear hbq
                go_wp2
                refine regionq (by kernel_rfl) (by kernel_rfl) HW.out ?_
                repeat (go_big_quiet_step (first | (go_at_call 54; exact quietq HG.out _ (LC.out _))))
                refine wpQuiet_nil ?_
                rintro _ ⟨s9, rfl⟩
                have hB9 := hidq (HOc.out s9)
                go_wp2
                go_roundw
                case rel => exact ⟨q + 1, by omega, by go_num, hB9.out⟩
                case measure => simp [intOf]; omega
              · obtain rfl : q = m := by omega
                have hqi : ¬ ((q : Int) < q) := by omega
                clear hbq
                go_wp2
                refine regionq (by kernel_rfl) (by kernel_rfl) HW.out ?_
                repeat (go_big_quiet_step (fail))
                refine wpQuiet_nil ?_
                rintro _ ⟨s9, rfl⟩
                have SQ := hidq (HFc.out s9).1
                have HZ := hidq (show wz.heap.size ≤ s9.W.heap.size by have := (HOc.out s9).size; simp at this; omega)
                have OA := hidq (HFc.out s9).2
                have OD := hidq (show Ss s9.W (.slice (some ⟨bO, oO + q * 2, none⟩) 0 (c2 - q)) [] from sl_zero (by unfold maxLen; omega) (fun _ => ⟨bO, _, rfl, Nat.lt_of_lt_of_le hbO.out HZ.out⟩))
                have HLA := hidq (show P.length ≤ 160000 by rw [HKL.out]; omega)
                have HLD := hidq (show ([] : List (Int × Int)).length ≤ 160000 by simp)
                have BQ := hidq (below_trans RX.out (HOc.out s9))
                obtain ⟨SQa, SQb⟩ := SQ.out.facts
                generalize s9.W = W9 at *
                clear h1c h2c
                go_wp2_with (first | (at_builtin; clear T1; refine wpList_append_sl (E := elSub) rfl _ _ rfl W9.heap.size _ 0 [] rfl (World.ownsRow_nil _ _ _ _) _ _ rfl OA.out (by have := HLA.out; (try simp only [List.length_nil]); omega) (Nat.le_refl _) ?_; intro v1 w1 hown1 hgrow1; have O1 := hidq hown1; have G1 := hidq ((Below.refl W9.heap.size W9).grown hgrow1 (Nat.le_refl _) (fun q hq => by cases hq)); have S1 := SQ.out.below G1.out; obtain ⟨S1a, S1b⟩ := S1.facts; clear hown1 hgrow1) | (at_builtin; clear T2; refine wpList_append_sl (E := elSub) rfl _ _ rfl W9.heap.size _ _ _ rfl (own_kept O1.out (below_one (o := (.cells #[.int .u64 s1, .int .u64 s2] 25)) (Below.refl w1.heap.size w1))) _ [(s1, s2)] rfl (Ss.oneq _ _ s1 s2 _ (by first | rfl | simp) FS.out) (by have := HLA.out; simp only [List.length_cons, List.length_nil]; omega) (by have := G1.out.size; simp; omega) ?_; intro v2 w2 hown2 hgrow2; have O2 := hidq hown2; have G2 := hidq ((below_one (o := (.cells #[.int .u64 s1, .int .u64 s2] 25)) G1.out).grown hgrow2 (by have := G1.out.size; simp; omega) (fun q hq => (O1.out.lt q hq).1)); clear hown2 hgrow2) | (at_builtin; refine wpList_append_sl (E := elSub) rfl _ _ rfl W9.heap.size _ _ _ rfl O2.out _ _ rfl (OD.out.below G2.out) (by have := HLA.out; have := HLD.out; simp only [List.length_cons, List.length_nil]; omega) G2.out.size ?_; intro v3 w3 hown3 hgrow3; have O3 := hidq hown3; have B3 := hidq (below_trans BQ.out (G2.out.grown hgrow3 G2.out.size (fun q hq => (O2.out.lt q hq).1))); clear hown3 hgrow3))
                go_roundw
                case rel => exact ⟨q + 1, by omega, by go_num, fun h => absurd h (by omega), row_ins (own_lower O3.out BQ.out.size) (by simp [HKL.out]) (by rw [HZZ.out, List.take_of_length_le (Nat.le_of_eq HKL.out), List.drop_of_length_le (Nat.le_of_eq HKL.out)]), B3.out⟩
                case measure => simp [intOf]; omega
        · have hmk2 : m < k := by omega
          have hcm : ¬ c2 = m := by omega
          have hcm2 : m ≤ c2 := by omega
          have hmk3 : ¬ k < m := by omega
          go_wp2
          go_loopw [6] (fun a wq => ∃ (q : Nat), q ≤ m ∧ a = .int .i64 q ∧ Below (wz.alloc (.cells #[.int .u64 s1, .int .u64 s2] 25)).heap.size (wz.alloc (.cells #[.int .u64 s1, .int .u64 s2] 25)) wq) (fun a _ => m - (intOf a).toNat)
          case atStart => exact ⟨0, by omega, rfl, Below.refl _ _⟩
          case round =>
            obtain ⟨q, hq, rfl, hbq⟩ := hrel
            have SQ := hidq (SX.out.below hbq)
            have OQ := hidq ((OX.out.below RW.out).below hbq)
            obtain ⟨G, HG, HFc, HOc, HW, ne⟩ := clq_of (wz.alloc (.cells #[.int .u64 s1, .int .u64 s2] 25)) wr (fun X' => Bi X' wz.heap.size 25 s1 s2 ∧ Ss X' (.slice (some ⟨bO, oO, none⟩) k c2) P) (fun _ _ h hb => ⟨h.1.below hb, h.2.below hb⟩) ⟨SQ.out, OQ.out⟩ hbq
            have h1c := fun c : Clq G => (HFc.out c).1.facts.1
            have h2c := fun c : Clq G => (HFc.out c).1.facts.2
            by_cases hqk : q < m
            · have hqi : (q : Int) < k := by omega
              obtain ⟨x, hxt⟩ : ∃ x, P[q]? = some x := ⟨_, List.getElem?_eq_getElem (by rw [HKL.out]; omega)⟩
              have hlt : M.lssB s1 s2 x.1 x.2 = false := HM2.out q x hqk hxt
              have hfx := HFP.out x (List.mem_of_getElem? hxt)
              obtain ⟨y, z⟩ := x
              have LC := hidq (fun W => rless8_any s1 s2 y z W ⟨FS.out.1, FS.out.2.1⟩ ⟨FS.out.2.2.1, FS.out.2.2.2⟩ ⟨hfx.1, hfx.2.1⟩ ⟨hfx.2.2.1, hfx.2.2.2⟩)
              rw [hlt] at LC
              have h3c := fun c : Clq G => (Ss.at (HFc.out c).2 hxt).1
              have h4c := fun c : Clq G => (Ss.at (HFc.out c).2 hxt).2
              dsimp only at h3c h4c
              clear hxt hlt hfx
              have hqw : IntKind.i64.wrap ((q : Int) + 1) = (q : Int) + 1 := by rw [IntKind.wrap_i64]; omega
              clear hbq
              go_wp2
              refine regionq (by kernel_rfl) (by kernel_rfl) HW.out ?_
              repeat (go_big_quiet_step (first | (go_at_call 54; exact quietq HG.out _ (LC.out _))))
              refine wpQuiet_nil ?_
              rintro _ ⟨s9, rfl⟩
              have hB9 := hidq (HOc.out s9)
              go_wp2
              go_roundw
              case rel => exact ⟨q + 1, by omega, by go_num, hB9.out⟩
              case measure => simp [intOf]; omega
            · obtain rfl : q = m := by omega
              have hqi : (q : Int) < k := by omega
              obtain ⟨x, hxt⟩ : ∃ x, P[q]? = some x := ⟨_, List.getElem?_eq_getElem (by rw [HKL.out]; omega)⟩
              have hlt : M.lssB s1 s2 x.1 x.2 = true := HM3.out x hxt
              have hfx := HFP.out x (List.mem_of_getElem? hxt)
              obtain ⟨y, z⟩ := x
              have LC := hidq (fun W => rless8_any s1 s2 y z W ⟨FS.out.1, FS.out.2.1⟩ ⟨FS.out.2.2.1, FS.out.2.2.2⟩ ⟨hfx.1, hfx.2.1⟩ ⟨hfx.2.2.1, hfx.2.2.2⟩)
              rw [hlt] at LC
              have h3c := fun c : Clq G => (Ss.at (HFc.out c).2 hxt).1
              have h4c := fun c : Clq G => (Ss.at (HFc.out c).2 hxt).2
              dsimp only at h3c h4c
              clear hxt hlt hfx
              clear hbq
              go_wp2
              refine regionq (by kernel_rfl) (by kernel_rfl) HW.out ?_
              repeat (go_big_quiet_step (first | (go_at_call 54; exact quietq HG.out _ (LC.out _))))
              refine wpQuiet_nil ?_
              rintro _ ⟨s9, rfl⟩
              have SQ := hidq (HFc.out s9).1
              have HZ := hidq (show wz.heap.size ≤ s9.W.heap.size by have := (HOc.out s9).size; simp at this; omega)
              have OA := hidq (sl_front (HFc.out s9).2 (m := q) (by omega) (by omega))
              have OD := hidq (sl_back (HFc.out s9).2 (m := q) HKL.out (by omega) (by omega))
              have HLA := hidq (show (P.take q).length ≤ 160000 by rw [List.length_take]; omega)
              have HLD := hidq (show (P.drop q).length ≤ 160000 by rw [List.length_drop, HKL.out]; omega)
              have BQ := hidq (below_trans RX.out (HOc.out s9))
              obtain ⟨SQa, SQb⟩ := SQ.out.facts
              generalize s9.W = W9 at *
              clear h1c h2c h3c h4c
              go_wp2_with (first | (at_builtin; clear T1; refine wpList_append_sl (E := elSub) rfl _ _ rfl W9.heap.size _ 0 [] rfl (World.ownsRow_nil _ _ _ _) _ _ rfl OA.out (by have := HLA.out; (try simp only [List.length_nil]); omega) (Nat.le_refl _) ?_; intro v1 w1 hown1 hgrow1; have O1 := hidq hown1; have G1 := hidq ((Below.refl W9.heap.size W9).grown hgrow1 (Nat.le_refl _) (fun q hq => by cases hq)); have S1 := SQ.out.below G1.out; obtain ⟨S1a, S1b⟩ := S1.facts; clear hown1 hgrow1) | (at_builtin; clear T2; refine wpList_append_sl (E := elSub) rfl _ _ rfl W9.heap.size _ _ _ rfl (own_kept O1.out (below_one (o := (.cells #[.int .u64 s1, .int .u64 s2] 25)) (Below.refl w1.heap.size w1))) _ [(s1, s2)] rfl (Ss.oneq _ _ s1 s2 _ (by first | rfl | simp) FS.out) (by have := HLA.out; simp only [List.length_cons, List.length_nil]; omega) (by have := G1.out.size; simp; omega) ?_; intro v2 w2 hown2 hgrow2; have O2 := hidq hown2; have G2 := hidq ((below_one (o := (.cells #[.int .u64 s1, .int .u64 s2] 25)) G1.out).grown hgrow2 (by have := G1.out.size; simp; omega) (fun q hq => (O1.out.lt q hq).1)); clear hown2 hgrow2) | (at_builtin; refine wpList_append_sl (E := elSub) rfl _ _ rfl W9.heap.size _ _ _ rfl O2.out _ _ rfl (OD.out.below G2.out) (by have := HLA.out; have := HLD.out; simp only [List.length_cons, List.length_nil]; omega) G2.out.size ?_; intro v3 w3 hown3 hgrow3; have O3 := hidq hown3; have B3 := hidq (below_trans BQ.out (G2.out.grown hgrow3 G2.out.size (fun q hq => (O2.out.lt q hq).1))); clear hown3 hgrow3))
              go_roundw
              case rel => exact ⟨k + 1, by omega, by go_num, fun h => absurd h (by omega), row_ins (own_lower O3.out BQ.out.size) (by simp [HKL.out]; omega) (HZZ.out.symm), B3.out⟩
              case measure => simp [intOf]; omega
    · obtain rfl : k = N := by omega
      have hki : ¬ (k : Int) < k := by omega
      have HS := hidq (show Ss wz _ (M.srt X) from by have := own_form2 hown fun x hx => HF.out x (List.mem_of_mem_take (M.srt_mem.1 hx)); rwa [List.take_of_length_le (by rw [HN.out]; exact Nat.le_refl _)] at this)
      clear hb hown hk0
      go_wp2
      go_ret
      exact ⟨_, rfl, HS.out, BX.out⟩
end Go.Proofs.YtmicgojojkkkhaaGreat
namespace Go.Proofs.YtmicgojojkkkhaaGreat.M
/-- a cover: subsets, each ahead of the next; each other leaf in just one; as many leaves -/
structure Cvr (h : Int) (L : List Int) (C : List (Int × Int)) : Prop where
  set : setB h L = true
  sub : ∀ s ∈ C, subB h s.1 s.2 = true
  rise : C.Pairwise fun s t => ltS s t = true
  told : ∀ i, 0 ≤ i → 0 ≤ Sg (inN h i) C ∧ Sg (inN h i) C ≤ 1 ∧ (fndE h L i = 0 → Sg (inN h i) C = if i ∈ L then 0 else 1)
  many : Sg (mnN h) C + L.length = p2 h
  each : ∀ s ∈ C, manyE h (lvs h s.1 s.2) = 0 ∧ 1 ≤ mnN h s ∧ mnN h s ≤ p2 h
def ldL (h : Int) (L : List Int) : List (Int × Int) := srt ((dfL h L).flatMap fun s => spl h s.1 s.2)
section
variable {h : Int} {L : List Int}
theorem sub_each (C : List (Int × Int)) (hC : ∀ s ∈ C, subB h s.1 s.2 = true) : ∀ s ∈ C, manyE h (lvs h s.1 s.2) = 0 ∧ 1 ≤ mnN h s ∧ mnN h s ≤ p2 h := fun s hs => by
  have := lvs_facts (hC s hs)
  exact ⟨this.2.2.2.1, this.2.2.2.2.2.1, this.2.2.2.2.2.2⟩
theorem lvs_some {I J : Int} (hs : subB h I J = true) : ∃ lo hi t, lvs h I J = (lo, hi) :: t ∧ inS (lvs h I J) lo = true ∧ 0 ≤ lo ∧ lo ≤ hi ∧ hi < p2 h := by
  obtain ⟨f1, f2, -⟩ := lvs_facts hs
  cases hl : lvs h I J with
  | nil => rw [hl] at f2; simp at f2
  | cons x t =>
    have := f1 x (by rw [hl]; simp)
    exact ⟨x.1, x.2, t, rfl, inS_iff.2 ⟨x, by simp, Int.le_refl _, this.2.1⟩, this.1, this.2.1, this.2.2⟩
/-- in order, and none twice -/
theorem strict_of {C : List (Int × Int)} (ho : Ord C) (hC : ∀ s ∈ C, subB h s.1 s.2 = true) (ht : ∀ i, 0 ≤ i → Sg (inN h i) C ≤ 1) : C.Pairwise fun s t => ltS s t = true := by
  rw [List.pairwise_iff_getElem]
  intro q k hq hk hqk
  have h1 := List.pairwise_iff_getElem.1 ho q k hq hk hqk
  cases h2 : ltS C[q] C[k] with
  | true => rfl
  | false =>
    exfalso
    have he := ltS_anti h2 h1
    obtain ⟨lo, hi, t, e1, e2, e3, -⟩ := lvs_some (hC C[q] (List.getElem_mem hq))
    have h3 := Sg_two (f := inN h lo) (fun x => (inN_bd h lo x).1) hqk (List.getElem?_eq_getElem hq) (List.getElem?_eq_getElem hk)
    rw [← he] at h3
    unfold inN at h3
    rw [if_pos e2] at h3
    have := ht lo e3
    unfold inN at this
    omega
theorem cvr_dif (hs : setB h L = true) : Cvr h L (dfL h L) :=
  ⟨hs, dfL_sub hs, (dfL_rise hs).imp fun hx => ltS_iff.2 (.inl hx), fun _ i0 => dfL_told hs i0, (dfL_many hs).1, (dfL_many hs).2⟩
theorem bare_sub (hs : setB h L = true) : ∀ s ∈ cvL h L, subB h s.1 s.2 = true ∧ s.2 = 0 := by
  intro s hm
  unfold cvL bareL at hm
  obtain ⟨n, hn, rfl⟩ := List.mem_map.1 hm
  exact ⟨sub_mk0 ((hang_mem hs).1 hn).1, rfl⟩
theorem cvr_who (hs : setB h L = true) : Cvr h L (cvL h L) := by
  obtain ⟨q1, q2, q3, q4⟩ := hang_facts hs
  have hsub := fun s hm => (bare_sub (h := h) (L := L) hs s hm).1
  have e1 : ∀ i, Sg (inN h i) (cvL h L) = Sm (hit h i) (thV h L) := fun i => by
    unfold cvL bareL
    rw [Sg_map, ← Sg_Sm]
    exact Sg_congr fun n _ => by rw [hit_bare]; rfl
  have e2 : Sg (mnN h) (cvL h L) = Sm (wid h) (thV h L) := by
    unfold cvL bareL
    rw [Sg_map, ← Sg_Sm]
    refine Sg_congr fun n hn => ?_
    unfold mnN
    rw [(lvs_facts (sub_mk0 ((hang_mem hs).1 hn).1)).2.2.2.2.1, if_pos rfl]
    unfold wid; omega
  refine ⟨hs, hsub, ?_, fun i i0 => ?_, by rw [e2]; exact q3, sub_each _ hsub⟩
  · unfold cvL bareL
    rw [List.pairwise_map]
    exact q1.imp fun hx => ltS_iff.2 (.inl hx)
  · rw [e1]
    by_cases hi : i < p2 h
    · rw [q4 i i0 hi]
      exact ⟨by split <;> omega, by split <;> omega, fun _ => rfl⟩
    · have hz : Sm (hit h i) (thV h L) = 0 := by
        rw [← Sg_Sm, Sg_congr (g := fun _ => 0) fun n hn => by
          have := low_bd ((hang_mem hs).1 hn).1
          unfold hit; rw [if_neg (by omega)]]
        induction thV h L with
        | nil => rfl
        | cons x t ih => rw [Sg, ih]; rfl
      rw [hz]
      refine ⟨by decide, by decide, fun hf => ?_⟩
      exfalso
      unfold fndE at hf
      cases hx : isB h i with
      | false => rw [hx, Bool.and_false] at hf; exact absurd hf (by decide)
      | true => exact hi (isB_of hx).2.2
/-! ### useful parts -/
theorem spl_facts {I J : Int} (hs : subB h I J = true) (h1 : J = 0 → I = 1) : (∀ s ∈ spl h I J, subB h s.1 s.2 = true ∧ useB h s.1 s.2 = true) ∧ (∀ i, Sg (inN h i) (spl h I J) = inN h i (I, J)) ∧ Sg (mnN h) (spl h I J) = mnN h (I, J) ∧
    (useB h I J = true → spl h I J = [(I, J)]) ∧ (useB h I J = false → (spl h I J).length = 2) ∧ 1 ≤ (spl h I J).length ∧ (spl h I J).length ≤ 2 := by
  unfold spl
  by_cases hJ : J = 0
  · rw [if_pos hJ]
    have hu : useB h I J = true := by subst hJ; rw [use_zero, decide_eq_true (h1 rfl)]
    refine ⟨fun s hm => ?_, fun i => by simp [Sg], by simp [Sg], fun _ => rfl, fun hx => (by rw [hu] at hx; cases hx), by simp, by simp⟩
    simp at hm; subst hm; exact ⟨hs, hu⟩
  · rw [if_neg hJ]
    cases hc : cutB h I J with
    | false =>
      have hu : useB h I J = true := by unfold useB; rw [if_neg hJ, hc]; rfl
      refine ⟨fun s hm => ?_, fun i => by simp [Sg], by simp [Sg], fun _ => rfl, fun hx => (by rw [hu] at hx; cases hx), by simp, by simp⟩
      simp at hm; subst hm; exact ⟨hs, hu⟩
    | true =>
      obtain ⟨-, -, -, -, -, c6, c7, -⟩ := cut_of hs hJ hc
      obtain ⟨u1, u2⟩ := cut_use hs hJ hc
      obtain ⟨p1, p2, p3⟩ := cut_parts hs hJ hc
      have hu : useB h I J = false := by unfold useB; rw [if_neg hJ, hc]; rfl
      refine ⟨fun s hm => ?_, fun i => ?_, ?_, fun hx => (by rw [hu] at hx; cases hx), fun _ => by simp, by simp, by simp⟩
      · simp at hm
        rcases hm with rfl | rfl
        · exact ⟨c6, u1⟩
        · exact ⟨c7, u2⟩
      · show Sg (inN h i) [(I, cutV h I J), (cutV h I J, J)] = _
        unfold inN Sg Sg Sg
        dsimp only
        rw [p2 i]
        have hno : ¬ (inS (lvs h I (cutV h I J)) i = true ∧ inS (lvs h (cutV h I J) J) i = true) := fun hx => by
          have f1 := lvs_facts c6
          have f2 := lvs_facts c7
          rw [Bool.eq_false_iff] at p1
          exact p1 ((metB_iff (fun s hs => (f1.1 s hs).2.1) (fun s hs => (f2.1 s hs).2.1)).2 ⟨i, hx.1, hx.2⟩)
        cases g1 : inS (lvs h I (cutV h I J)) i <;> cases g2 : inS (lvs h (cutV h I J) J) i <;> simp [g1, g2] at hno ⊢
      · show Sg (mnN h) [(I, cutV h I J), (cutV h I J, J)] = _
        unfold mnN Sg Sg Sg
        dsimp only
        rw [p3]; omega
theorem dfL_zero (hs : setB h L = true) : ∀ s ∈ dfL h L, s.2 = 0 → s.1 = 1 := by
  intro s hm h2
  by_cases h0 : L = []
  · subst h0
    rw [dfL_nil hs] at hm
    simp at hm
    subst hm; rfl
  · exact absurd h2 (dfL_below hs h0 s hm).1
theorem flat_len2 {α β : Type} (g : α → List β) (a b : Nat) : ∀ X : List α, (∀ x ∈ X, a ≤ (g x).length ∧ (g x).length ≤ b) → a * X.length ≤ (X.flatMap g).length ∧ (X.flatMap g).length ≤ b * X.length
  | [], _ => by simp
  | x :: t, hX => by
    have h1 := hX x (by simp)
    have h2 := flat_len2 g a b t fun y hy => hX y (List.mem_cons_of_mem _ hy)
    rw [List.flatMap_cons, List.length_append, List.length_cons, Nat.mul_add, Nat.mul_add]
    omega
theorem ldL_mem {u : Int × Int} : u ∈ ldL h L ↔ ∃ s ∈ dfL h L, u ∈ spl h s.1 s.2 := by
  unfold ldL
  rw [srt_mem, List.mem_flatMap]
theorem ldL_use (hs : setB h L = true) : ∀ u ∈ ldL h L, subB h u.1 u.2 = true ∧ useB h u.1 u.2 = true := by
  intro u hu
  obtain ⟨s, hm, hu⟩ := ldL_mem.1 hu
  exact (spl_facts (dfL_sub hs s hm) (dfL_zero hs s hm)).1 u hu
theorem ldL_sum (hs : setB h L = true) (i : Int) : Sg (inN h i) (ldL h L) = Sg (inN h i) (dfL h L) ∧ Sg (mnN h) (ldL h L) = Sg (mnN h) (dfL h L) := by
  unfold ldL
  rw [Sg_perm (srt_perm _), Sg_perm (srt_perm _), Sg_flat, Sg_flat]
  exact ⟨Sg_congr fun s hm => (spl_facts (dfL_sub hs s hm) (dfL_zero hs s hm)).2.1 i, Sg_congr fun s hm => (spl_facts (dfL_sub hs s hm) (dfL_zero hs s hm)).2.2.1⟩
theorem cvr_lay (hs : setB h L = true) : Cvr h L (ldL h L) := by
  have D := cvr_dif hs
  have hsub := fun u hu => (ldL_use (h := h) (L := L) hs u hu).1
  have ht : ∀ i, 0 ≤ i → 0 ≤ Sg (inN h i) (ldL h L) ∧ Sg (inN h i) (ldL h L) ≤ 1 ∧ (fndE h L i = 0 → Sg (inN h i) (ldL h L) = if i ∈ L then 0 else 1) := fun i i0 => by
    rw [(ldL_sum hs i).1]; exact D.told i i0
  exact ⟨hs, hsub, strict_of (srt_ord _) hsub fun i i0 => (ht i i0).2.1, ht, by rw [(ldL_sum hs 0).2]; exact D.many, sub_each _ hsub⟩
/-- how many -/
theorem ldL_len (hs : setB h L = true) : (dfL h L).length ≤ (ldL h L).length ∧ (ldL h L).length ≤ 2 * (dfL h L).length := by
  unfold ldL
  rw [srt_length]
  have := flat_len2 (fun s => spl h s.1 s.2) 1 2 (dfL h L) fun s hm => (spl_facts (dfL_sub hs s hm) (dfL_zero hs s hm)).2.2.2.2.2
  omega
/-- all are useful just if they are the differences -/
theorem ldL_all (hs : setB h L = true) : ((dfL h L).all (fun s => useB h s.1 s.2) = true → ldL h L = dfL h L) ∧ ((dfL h L).all (fun s => useB h s.1 s.2) = false → (dfL h L).length < (ldL h L).length) := by
  constructor
  · intro ha
    have he : (dfL h L).flatMap (fun s => spl h s.1 s.2) = dfL h L := by
      have key : ∀ X : List (Int × Int), (∀ s ∈ X, spl h s.1 s.2 = [s]) → X.flatMap (fun s => spl h s.1 s.2) = X := by
        intro X
        induction X with
        | nil => intro _; rfl
        | cons x t ih =>
          intro hX
          rw [List.flatMap_cons, hX x (by simp), ih fun y hy => hX y (List.mem_cons_of_mem _ hy)]; rfl
      refine key _ fun s hm => ?_
      exact (spl_facts (dfL_sub hs s hm) (dfL_zero hs s hm)).2.2.2.1 (List.all_eq_true.1 ha s hm)
    unfold ldL
    rw [he]
    exact srt_of_ord (ord_of_rise (dfL_rise hs))
  · intro ha
    unfold ldL
    rw [srt_length]
    have hx : ∃ s ∈ dfL h L, useB h s.1 s.2 = false := by
      rw [List.all_eq_false] at ha
      obtain ⟨s, hm, hu⟩ := ha
      exact ⟨s, hm, by simpa using hu⟩
    obtain ⟨s, hm, hu⟩ := hx
    obtain ⟨A, B, hAB⟩ := List.append_of_mem hm
    have hf := fun s hm => spl_facts (dfL_sub hs s hm) (dfL_zero hs s hm)
    have h2 := (hf s hm).2.2.2.2.1 hu
    rw [hAB] at hf ⊢
    have hA := (flat_len2 (fun s => spl h s.1 s.2) 1 2 A fun s hm => (hf s (by simp [hm])).2.2.2.2.2).1
    have hB := (flat_len2 (fun s => spl h s.1 s.2) 1 2 B fun s hm => (hf s (by simp [hm])).2.2.2.2.2).1
    rw [List.flatMap_append, List.flatMap_cons, List.length_append, List.length_append, List.length_append, List.length_cons, h2]
    omega
/-- each lies in just one difference -/
theorem ldL_within (hs : setB h L = true) : ∀ u ∈ ldL h L, ∃ lo hi t, lvs h u.1 u.2 = (lo, hi) :: t ∧ 0 ≤ lo ∧ lo < p2 h ∧ 0 ≤ hi ∧ hi < p2 h ∧ Sg (inN h lo) (dfL h L) = 1 := by
  intro u hu
  obtain ⟨lo, hi, t, e1, e2, e3, e4, e5⟩ := lvs_some (ldL_use hs u hu).1
  refine ⟨lo, hi, t, e1, e3, by omega, by omega, e5, ?_⟩
  have h1 := (cvr_dif hs).told lo e3
  have h2 := (ldL_sum hs lo).1
  obtain ⟨k, hk, rfl⟩ := List.mem_iff_getElem.1 hu
  have h3 := Sg_take (f := inN h lo) (List.getElem?_eq_getElem hk)
  have h4 := Sg_part (f := inN h lo) (X := ldL h L) (fun x _ => (inN_bd h lo x).1) k
  have h5 := Sg_part (f := inN h lo) (X := ldL h L) (fun x _ => (inN_bd h lo x).1) (k + 1)
  have h6 : inN h lo (ldL h L)[k] = 1 := by unfold inN; rw [if_pos e2]
  omega
end
end Go.Proofs.YtmicgojojkkkhaaGreat.M
