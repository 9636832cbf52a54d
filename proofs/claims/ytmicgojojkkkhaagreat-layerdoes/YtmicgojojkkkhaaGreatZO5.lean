/-
  What steiner.above answers, and what eachNode comes to with the closures of Many, Forks and Hang: the nodes of a set's tree, told one by one. Conditions: the list is a set that is not empty, the box lies apart from it.
-/
import Derived.Test.YtmicgojojkkkhaaGreatZO2
namespace Go.Proofs.YtmicgojojkkkhaaGreat
open Go.RowKit
set_option maxRecDepth 100000 in
theorem above_fn (h : Int) (ao : Option Addr) (n cap : Nat) (w : World) :
    Calls Tryz.prog 90 #[.int .i64 h, .slice ao n cap] w fun e w' => ∃ H B, e = .returned (.func (.func 106) #[] #[.pointer (some ⟨H, 0, none⟩), .pointer (some ⟨B, 0, none⟩)]) ∧ Bk w' H (.int .i64 h) 3 ∧ Bk w' B (.slice ao n cap) 22 ∧ w.heap.size ≤ H ∧ w.heap.size ≤ B ∧ Below w.heap.size w w' := by
  have B1 := hidq ((Bk.new w (.int .i64 h) 3).alloc (.cells #[.slice ao n cap] 22))
  have B2 := hidq (show Bk _ (w.heap.size + 1) _ _ by have := Bk.new (w.alloc (.cells #[.int .i64 h] 3)) (.slice ao n cap) 22; rw [World.size_alloc] at this; exact this)
  have BB := hidq (below_one (o := .cells #[.slice ao n cap] 22) (below_one (o := .cells #[.int .i64 h] 3) (Below.refl w.heap.size w)))
  go_enter Tryz.func90, Tryz.ntmps90
  go_wp2
  go_ret
  exact ⟨_, _, rfl, B1.out, B2.out, Nat.le_refl _, by simp, BB.out⟩
/-- a loop's measure: how far the first one in the queue is from the end -/
def headM (v : Value) (W : World) : Nat :=
  match v with
  | .slice (some a) (_ + 1) _ => match W.cell? a with
    | some (.int _ x) => (17179869184 - x).toNat
    | _ => 0
  | _ => 0
theorem headM_nil {W : World} {base : Nat} {e : TypeId} {v : Value} (h : Qu W base e v []) : headM v W = 0 := by
  obtain ⟨ao, cap, rfl, -⟩ := h.form
  cases ao <;> rfl
theorem headM_cons {W : World} {base : Nat} {e : TypeId} {v : Value} {x : Int} {L : List Int} (h : Qu W base e v (x :: L)) : headM v W = (17179869184 - x).toNat := by
  obtain ⟨ao, cap, rfl, -, h3⟩ := h.form
  obtain ⟨g, off, rfl⟩ := h3 (by simp)
  have := h.head
  simp only [List.length_cons]
  unfold headM
  simp only [this.1]
theorem headM_less {W W' : World} {base b' : Nat} {e e' : TypeId} {v v' : Value} {h : Int} {L T Q : List Int} {q : Int} (b : M.Bfs h L T (q :: Q)) (h1 : Qu W base e v (q :: Q)) (h2 : Qu W' b' e' v' (Q ++ M.kid h L q)) : headM v' W' < headM v W := by
  have hq := M.ok_lt (M.inT_iff.1 (b.mem q (by simp))).1
  rw [headM_cons h1]
  have b2 := b.step
  generalize hR : Q ++ M.kid h L q = R at *
  cases R with
  | nil => rw [headM_nil h2]; omega
  | cons r R' =>
    rw [headM_cons h2]
    have hr := M.ok_lt (M.inT_iff.1 (b2.mem r (by simp))).1
    have hlt : q < r := by
      have := b2.rise
      rw [List.pairwise_append] at this
      exact this.2.2 q (by simp) r (by simp)
    omega
theorem qu_next {W : World} {base : Nat} {e : TypeId} {g off n cap m : Nat} {x : Int} {L : List Int} (h : Qu W base e (.slice (some ⟨g, off, none⟩) n cap) (x :: L)) (hm : m = L.length) :
    Qu W base e (.slice (if cap = 1 then some ⟨g, off, none⟩ else some ⟨g, off + 1, none⟩) m (cap - 1)) L ∧ ∀ k, qblk (.slice (if cap = 1 then some ⟨g, off, none⟩ else some ⟨g, off + 1, none⟩) m (cap - 1)) = some k → qblk (.slice (some ⟨g, off, none⟩) n cap) = some k := by
  subst hm
  obtain ⟨h1, h2, h3, h4, h5, h6⟩ := h.head
  by_cases hc : cap = 1
  · have hL : L = [] := List.eq_nil_of_length_eq_zero (by omega)
    subst hL
    rw [if_pos hc]
    subst hc
    exact ⟨Qu.nil _ _ _ _, fun k hk => by cases hk⟩
  · rw [if_neg hc]
    refine ⟨by have := h.tail; rw [h3] at this; exact this, fun k hk => ?_⟩
    obtain ⟨k1, a, k2, k3⟩ := qblk_some hk
    cases k2
    rw [qblk_slice, if_neg (by omega), ← k3]
theorem grown_id (w : World) (row : Option Nat) : w.grownBy w row := ⟨rfl, rfl, rfl, Nat.le_refl _, fun _ _ _ => rfl⟩
theorem grown_below {w w' : World} {row : Option Nat} (hb : Below w.heap.size w w') : w.grownBy w' row := ⟨hb.os, hb.tape, hb.output, hb.size, fun k hk _ => hb.block k hk⟩
/-- the set's slice stays while one box behind it turns -/
theorem us_box {w0 w w' : World} {v : Value} {L : List Int} {B : Nat} (u : Us w0 v L) (hb : Below w0.heap.size w0 w) (hB : w0.heap.size ≤ B) (g : w.grownBy w' (some B)) : Us w' v L :=
  u.below (hb.grown g hb.size fun k hk => by cases hk; exact hB)

set_option maxRecDepth 100000 in
set_option maxHeartbeats 8000000 in
theorem each_forks (h : Int) (L : List Int) (s B : Nat) (T : Nat → Prop) (ao : Option Addr) (cap : Nat) (w0 w : World) (hs : M.setB h L = true) (h0 : L ≠ []) (u : Us w0 (.slice ao L.length cap) L) (hb : Below w0.heap.size w0 w) (hB : w0.heap.size ≤ B) (hBw : B < w.heap.size) (hT : ∀ k, T k → k = B) (st : RS w s B T (([] : List Int).filter (M.frk h L))) (hsw : s = w.heap.size) :
    Calls Tryz.prog 69 #[.int .i64 h, .slice ao L.length cap, (.func (.func 71) #[] #[.pointer (some ⟨B, 0, none⟩)])] w fun e w' => e = .returned (.tuple #[]) ∧ (∃ T', RS w' s B T' ((M.tree h L : List Int).filter (M.frk h L))) ∧ w.grownBy w' (some B) := by
  obtain ⟨i0, hi, hz0, hz1, hz2⟩ := info_parts Tryz.infoU64
  have hl0 : (L.length == 0) = false := by cases L <;> simp_all
  have hl1 : 0 < L.length := by cases L <;> simp_all
  have hl2 : ¬ (L.length : Int) = 0 := by omega
  have hl3 : ((L.length : Int) == 0) = false := by rw [beq_eq_false_iff_ne]; omega
  have HS := hidq hs
  have U0 := hidq u
  have HB0 := hidq hb
  have HB := hidq hB
  have HT := hidq hT
  have ST := hidq st
  have HB1 := hidq (M.Bfs.start hs h0)
  have HDone := hidq (fun T => M.Bfs.done (T := T) hs)
  have HLen := hidq (fun T Q => M.Bfs.len (T := T) (Q := Q) hs)
  have TC := hidq trivial
  clear hs h0 u hb hB hT st
  go_enter Tryz.func69, Tryz.ntmps69
  go_wp2_with (first | (go_at_call 90; refine (above_fn h ao L.length cap _).mono ?_; rintro rr w1 ⟨H, Bl, rfl, b1, b2, h1, h2, hb1⟩; have W1H := hidq b1; have W1L := hidq b2; have W1B := hidq hb1; have hH := hidq h1; have hBl := hidq h2; clear b1 b2 h1 h2 hb1))
  have W1Z := hidq W1B.out.size
  go_loopw [7] (fun x wr => ∃ (T1 Q : List Int) (T0 : Nat → Prop), M.Bfs h L T1 Q ∧ Qu wr w1.heap.size 23 x Q ∧ RS wr s B T0 ((T1 : List Int).filter (M.frk h L)) ∧ (∀ k, T0 k → k = B ∨ w1.heap.size ≤ k) ∧ (∀ k, T0 k → qblk x ≠ some k) ∧ w1.grownBy wr (some B)) (fun x wr => headM x wr)
  case atStart =>
    refine ⟨[], [1], T, HB1.out, Qu.one _ _ _ (by omega) (by omega) (Nat.le_refl _), RS.kept ST.out (fun k hk => ?_) ?_, fun k hk => .inl (HT.out k hk), fun k hk he => ?_, World.grownBy_alloc _ _ _⟩
    · have hk2 := RS.size ST.out k hk
      exact ((World.grownBy_alloc w1 (.cells #[.int .u64 1] 23) none).block k (Nat.lt_of_lt_of_le hk2 W1Z.out) (by simp)).trans (W1B.out.block k hk2)
    · have := W1Z.out; simp; omega
    · have e := HT.out k hk
      have e2 : some w1.heap.size = some k := he
      have e3 := Option.some.inj e2
      have := W1Z.out
      omega
  case round =>
    obtain ⟨X0, Q, T0, hb, hq, hst, htb, htq, hg⟩ := hrel
    cases Q with
    | nil =>
      obtain ⟨ax, cx, rfl, -⟩ := hq.form
      have HD := HDone.out X0 hb
      subst HD
      have HST := hidq hst
      have HG := hidq (grown_trans (grown_below W1B.out) hg)
      clear hb hq hst htb htq hg
      go_wp2
      go_end0
      exact ⟨rfl, ⟨_, HST.out⟩, HG.out⟩
    | cons q Q =>
      obtain ⟨ax, cq, rfl, hcl, hax⟩ := hq.form
      obtain ⟨gq, oq, rfl⟩ := hax (by simp)
      obtain ⟨xc, xg, -, xl, xm, hq0, hq1⟩ := hq.head
      have hln := HLen.out X0 (q :: Q) hb
      have hkl := (M.kidK_len h L q 2).1
      have hinq := M.inT_iff.1 (hb.mem q (by simp))
      have HQok := hidq hinq.1
      have HXl := hidq (show X0.length ≤ 40000 by omega)
      have HKl : (M.kid h L q).length ≤ 2 := by
        unfold M.kid
        split
        · exact List.length_filter_le _ _
        · simp
      have HL4 := hidq (show (q :: Q).length + (M.kid h L q).length ≤ 1000000 by omega)
      have HW1 := hidq hg.size
      have HSr := hidq (show s ≤ wr.heap.size by have := W1Z.out; have := hg.size; omega)
      have BHr := hidq (W1H.out.kept (hg.block H W1H.out.lt (fun e => by cases e; have := hH.out; omega)))
      have BLr := hidq (W1L.out.kept (hg.block Bl W1L.out.lt (fun e => by cases e; have := hBl.out; omega)))
      have Ur := hidq (us_box U0.out (below_trans HB0.out W1B.out) HB.out hg)
      have TZ := hidq (RS.size hst)
      have TB := hidq htb
      have QX0 := hidq hq
      have G0 := hidq hg
      have ST0 := hidq (fun W3 (hb3 : Below wr.heap.size wr W3) => RS.kept hst (fun k hk => hb3.block k (RS.size hst k hk)) hb3.size)
      have HBF := hidq hb
      have HLS := hidq (fun W5 v5 (q5 : Qu W5 w1.heap.size 23 v5 (Q ++ M.kid h L q)) => headM_less hb hq q5)
      simp only [List.length_cons] at htq
      have TQ := hidq htq
      have hlp : 0 < (Q.length : Int) + 1 := by omega
      clear hb hq hst htb htq hg hinq hln hkl hax
      go_wp2_with (first | (go_at_call 91; clear TC; refine (children_any h q L H Bl _ wr HS.out HQok.out (BHr.out) (BLr.out) (Ur.out)).mono ?_; rintro rr W3 ⟨vi, vo, rfl, qi, qo, hb3⟩; obtain ⟨ai, ci, rfl, -⟩ := qi.form; obtain ⟨ax, cx, rfl, -⟩ := qo.form; have ST3 := hidq (ST0.out W3 hb3); have UI3 := hidq qi.us; have UO3 := hidq qo.us; have QI3 := hidq qi; have QX3 := hidq (QX0.out.below hb3); have XC3 := (QX0.out.below hb3).head.1; have HS3 := hidq (show s ≤ W3.heap.size from Nat.le_trans HSr.out hb3.size); have G3 := hidq (grown_trans G0.out (grown_below hb3)); have Z3 := hidq hb3.size; clear qi qo hb3) | (go_at_call 71; refine (tell_forks h q L s B T0 X0 W3 _ _ ST3.out HXl.out hq0 hq1 UI3.out HS3.out).mono ?_; rintro rr W4 ⟨rfl, T4, st4, ow4, tk4⟩; have QX4 := hidq (QX3.out.kept fun k hk => ow4.block k (QX3.out.lt k hk).2 fun ht => TQ.out k ht hk); have UI4 := hidq (QI3.out.kept fun k hk => ow4.block k (QI3.out.lt k hk).2 fun ht => by have := (QI3.out.lt k hk).1; have := TZ.out k ht; omega).us; have HS4 := hidq (Nat.le_trans HS3.out ow4.size); have ST4 := hidq st4; have TK4 := hidq (show ∀ k, T4 k → T0 k ∨ wr.heap.size ≤ k from fun k hk => (tk4 k hk).imp id fun h => Nat.le_trans Z3.out h); have TQ4 := hidq (show ∀ k, T4 k → qblk (.slice (some ⟨gq, oq, none⟩) (Q.length + 1) cq) ≠ some k from fun k hk he => by rcases tk4 k hk with h | h; (exact TQ.out k h he); (have := (QX3.out.lt k he).2; omega)); have G4 := hidq (show w1.grownBy W4 (some B) from ⟨ow4.os.trans G3.out.os, ow4.tape.trans G3.out.tape, ow4.output.trans G3.out.output, Nat.le_trans G3.out.size ow4.size, fun k hk hne => (ow4.block k (Nat.lt_of_lt_of_le hk G3.out.size) fun ht => by rcases TB.out k ht with h | h; (exact hne (by rw [h])); omega).trans (G3.out.block k hk hne)⟩); clear st4 ow4 tk4) | (at_builtin; refine wpList_append_qu rfl _ _ 22 rfl w1.heap.size 23 i0 Tryz.underlying22 hi hz0 hz1 hz2 _ (q :: Q) rfl QX4.out _ (M.kid h L q) rfl UI4.out HL4.out G4.out.size ?_; intro v5 W5 q5 g5 n5; obtain ⟨a5, c5, rfl, _, hp5⟩ := q5.form; obtain ⟨g5', o5, rfl⟩ := hp5 (by simp); simp only [List.length_append, List.length_cons, List.cons_append] at q5 n5; have ST5 := hidq (RS.kept ST4.out (fun k hk => g5.block k (RS.size ST4.out k hk) fun e => TQ4.out k hk e.symm) g5.size); have TQ5 := hidq (show ∀ k, T4 k → qblk (.slice (some ⟨g5', o5, none⟩) (Q.length + 1 + (M.kid h L q).length) c5) ≠ some k from fun k hk he => by rcases n5 k he with h | h; (exact TQ4.out k hk h); (have := RS.size ST4.out k hk; omega)); have G5 := hidq (show w1.grownBy W5 (some B) from ⟨g5.os.trans G4.out.os, g5.tape.trans G4.out.tape, g5.output.trans G4.out.output, Nat.le_trans G4.out.size g5.size, fun k hk hne => (g5.block k (Nat.lt_of_lt_of_le hk G4.out.size) fun e => by have := (QX4.out.lt k e.symm).1; omega).trans (G4.out.block k hk hne)⟩); have Q5 := hidq q5; clear q5 n5))
      obtain ⟨qn, bn⟩ := qu_next Q5.out (m := Q.length + (M.kid h L q).length) (by simp)
      exact ⟨⟨X0 ++ [q], Q ++ M.kid h L q, T4, HBF.out.step, qn, ST5.out, fun k hk => (TK4.out k hk).elim (fun h => TB.out k h) (fun h => .inr (Nat.le_trans HW1.out h)), fun k hk he => TQ5.out k hk (bn k he), G5.out⟩, HLS.out _ _ qn⟩

set_option maxRecDepth 100000 in
set_option maxHeartbeats 8000000 in
theorem each_hang (h : Int) (L : List Int) (s B : Nat) (T : Nat → Prop) (ao : Option Addr) (cap : Nat) (w0 w : World) (hs : M.setB h L = true) (h0 : L ≠ []) (u : Us w0 (.slice ao L.length cap) L) (hb : Below w0.heap.size w0 w) (hB : w0.heap.size ≤ B) (hBw : B < w.heap.size) (hT : ∀ k, T k → k = B) (st : RS w s B T (([] : List Int).flatMap (M.outk h L))) (hsw : s = w.heap.size) :
    Calls Tryz.prog 69 #[.int .i64 h, .slice ao L.length cap, (.func (.func 70) #[] #[.pointer (some ⟨B, 0, none⟩)])] w fun e w' => e = .returned (.tuple #[]) ∧ (∃ T', RS w' s B T' ((M.tree h L : List Int).flatMap (M.outk h L))) ∧ w.grownBy w' (some B) := by
  obtain ⟨i0, hi, hz0, hz1, hz2⟩ := info_parts Tryz.infoU64
  have hl0 : (L.length == 0) = false := by cases L <;> simp_all
  have hl1 : 0 < L.length := by cases L <;> simp_all
  have hl2 : ¬ (L.length : Int) = 0 := by omega
  have hl3 : ((L.length : Int) == 0) = false := by rw [beq_eq_false_iff_ne]; omega
  have HS := hidq hs
  have U0 := hidq u
  have HB0 := hidq hb
  have HB := hidq hB
  have HT := hidq hT
  have ST := hidq st
  have HB1 := hidq (M.Bfs.start hs h0)
  have HDone := hidq (fun T => M.Bfs.done (T := T) hs)
  have HLen := hidq (fun T Q => M.Bfs.len (T := T) (Q := Q) hs)
  have TC := hidq trivial
  clear hs h0 u hb hB hT st
  go_enter Tryz.func69, Tryz.ntmps69
  go_wp2_with (first | (go_at_call 90; refine (above_fn h ao L.length cap _).mono ?_; rintro rr w1 ⟨H, Bl, rfl, b1, b2, h1, h2, hb1⟩; have W1H := hidq b1; have W1L := hidq b2; have W1B := hidq hb1; have hH := hidq h1; have hBl := hidq h2; clear b1 b2 h1 h2 hb1))
  have W1Z := hidq W1B.out.size
  go_loopw [7] (fun x wr => ∃ (T1 Q : List Int) (T0 : Nat → Prop), M.Bfs h L T1 Q ∧ Qu wr w1.heap.size 23 x Q ∧ RS wr s B T0 ((T1 : List Int).flatMap (M.outk h L)) ∧ (∀ k, T0 k → k = B ∨ w1.heap.size ≤ k) ∧ (∀ k, T0 k → qblk x ≠ some k) ∧ w1.grownBy wr (some B)) (fun x wr => headM x wr)
  case atStart =>
    refine ⟨[], [1], T, HB1.out, Qu.one _ _ _ (by omega) (by omega) (Nat.le_refl _), RS.kept ST.out (fun k hk => ?_) ?_, fun k hk => .inl (HT.out k hk), fun k hk he => ?_, World.grownBy_alloc _ _ _⟩
    · have hk2 := RS.size ST.out k hk
      exact ((World.grownBy_alloc w1 (.cells #[.int .u64 1] 23) none).block k (Nat.lt_of_lt_of_le hk2 W1Z.out) (by simp)).trans (W1B.out.block k hk2)
    · have := W1Z.out; simp; omega
    · have e := HT.out k hk
      have e2 : some w1.heap.size = some k := he
      have e3 := Option.some.inj e2
      have := W1Z.out
      omega
  case round =>
    obtain ⟨X0, Q, T0, hb, hq, hst, htb, htq, hg⟩ := hrel
    cases Q with
    | nil =>
      obtain ⟨ax, cx, rfl, -⟩ := hq.form
      have HD := HDone.out X0 hb
      subst HD
      have HST := hidq hst
      have HG := hidq (grown_trans (grown_below W1B.out) hg)
      clear hb hq hst htb htq hg
      go_wp2
      go_end0
      exact ⟨rfl, ⟨_, HST.out⟩, HG.out⟩
    | cons q Q =>
      obtain ⟨ax, cq, rfl, hcl, hax⟩ := hq.form
      obtain ⟨gq, oq, rfl⟩ := hax (by simp)
      obtain ⟨xc, xg, -, xl, xm, hq0, hq1⟩ := hq.head
      have hln := HLen.out X0 (q :: Q) hb
      have hkl := (M.kidK_len h L q 2).1
      have hinq := M.inT_iff.1 (hb.mem q (by simp))
      have HQok := hidq hinq.1
      have HXl := hidq (show X0.length ≤ 40000 by omega)
      have HKl : (M.kid h L q).length ≤ 2 := by
        unfold M.kid
        split
        · exact List.length_filter_le _ _
        · simp
      have HL4 := hidq (show (q :: Q).length + (M.kid h L q).length ≤ 1000000 by omega)
      have HW1 := hidq hg.size
      have HSr := hidq (show s ≤ wr.heap.size by have := W1Z.out; have := hg.size; omega)
      have BHr := hidq (W1H.out.kept (hg.block H W1H.out.lt (fun e => by cases e; have := hH.out; omega)))
      have BLr := hidq (W1L.out.kept (hg.block Bl W1L.out.lt (fun e => by cases e; have := hBl.out; omega)))
      have Ur := hidq (us_box U0.out (below_trans HB0.out W1B.out) HB.out hg)
      have TZ := hidq (RS.size hst)
      have TB := hidq htb
      have QX0 := hidq hq
      have G0 := hidq hg
      have ST0 := hidq (fun W3 (hb3 : Below wr.heap.size wr W3) => RS.kept hst (fun k hk => hb3.block k (RS.size hst k hk)) hb3.size)
      have HBF := hidq hb
      have HLS := hidq (fun W5 v5 (q5 : Qu W5 w1.heap.size 23 v5 (Q ++ M.kid h L q)) => headM_less hb hq q5)
      simp only [List.length_cons] at htq
      have TQ := hidq htq
      have hlp : 0 < (Q.length : Int) + 1 := by omega
      clear hb hq hst htb htq hg hinq hln hkl hax
      go_wp2_with (first | (go_at_call 91; clear TC; refine (children_any h q L H Bl _ wr HS.out HQok.out (BHr.out) (BLr.out) (Ur.out)).mono ?_; rintro rr W3 ⟨vi, vo, rfl, qi, qo, hb3⟩; obtain ⟨ai, ci, rfl, -⟩ := qi.form; obtain ⟨ax, cx, rfl, -⟩ := qo.form; have ST3 := hidq (ST0.out W3 hb3); have UI3 := hidq qi.us; have UO3 := hidq qo.us; have QI3 := hidq qi; have QX3 := hidq (QX0.out.below hb3); have XC3 := (QX0.out.below hb3).head.1; have HS3 := hidq (show s ≤ W3.heap.size from Nat.le_trans HSr.out hb3.size); have G3 := hidq (grown_trans G0.out (grown_below hb3)); have Z3 := hidq hb3.size; clear qi qo hb3) | (go_at_call 70; refine (tell_hang h q L s B T0 X0 W3 _ _ ST3.out HXl.out UO3.out HS3.out).mono ?_; rintro rr W4 ⟨rfl, T4, st4, ow4, tk4⟩; have QX4 := hidq (QX3.out.kept fun k hk => ow4.block k (QX3.out.lt k hk).2 fun ht => TQ.out k ht hk); have UI4 := hidq (QI3.out.kept fun k hk => ow4.block k (QI3.out.lt k hk).2 fun ht => by have := (QI3.out.lt k hk).1; have := TZ.out k ht; omega).us; have HS4 := hidq (Nat.le_trans HS3.out ow4.size); have ST4 := hidq st4; have TK4 := hidq (show ∀ k, T4 k → T0 k ∨ wr.heap.size ≤ k from fun k hk => (tk4 k hk).imp id fun h => Nat.le_trans Z3.out h); have TQ4 := hidq (show ∀ k, T4 k → qblk (.slice (some ⟨gq, oq, none⟩) (Q.length + 1) cq) ≠ some k from fun k hk he => by rcases tk4 k hk with h | h; (exact TQ.out k h he); (have := (QX3.out.lt k he).2; omega)); have G4 := hidq (show w1.grownBy W4 (some B) from ⟨ow4.os.trans G3.out.os, ow4.tape.trans G3.out.tape, ow4.output.trans G3.out.output, Nat.le_trans G3.out.size ow4.size, fun k hk hne => (ow4.block k (Nat.lt_of_lt_of_le hk G3.out.size) fun ht => by rcases TB.out k ht with h | h; (exact hne (by rw [h])); omega).trans (G3.out.block k hk hne)⟩); clear st4 ow4 tk4) | (at_builtin; refine wpList_append_qu rfl _ _ 22 rfl w1.heap.size 23 i0 Tryz.underlying22 hi hz0 hz1 hz2 _ (q :: Q) rfl QX4.out _ (M.kid h L q) rfl UI4.out HL4.out G4.out.size ?_; intro v5 W5 q5 g5 n5; obtain ⟨a5, c5, rfl, _, hp5⟩ := q5.form; obtain ⟨g5', o5, rfl⟩ := hp5 (by simp); simp only [List.length_append, List.length_cons, List.cons_append] at q5 n5; have ST5 := hidq (RS.kept ST4.out (fun k hk => g5.block k (RS.size ST4.out k hk) fun e => TQ4.out k hk e.symm) g5.size); have TQ5 := hidq (show ∀ k, T4 k → qblk (.slice (some ⟨g5', o5, none⟩) (Q.length + 1 + (M.kid h L q).length) c5) ≠ some k from fun k hk he => by rcases n5 k he with h | h; (exact TQ4.out k hk h); (have := RS.size ST4.out k hk; omega)); have G5 := hidq (show w1.grownBy W5 (some B) from ⟨g5.os.trans G4.out.os, g5.tape.trans G4.out.tape, g5.output.trans G4.out.output, Nat.le_trans G4.out.size g5.size, fun k hk hne => (g5.block k (Nat.lt_of_lt_of_le hk G4.out.size) fun e => by have := (QX4.out.lt k e.symm).1; omega).trans (G4.out.block k hk hne)⟩); have Q5 := hidq q5; clear q5 n5))
      obtain ⟨qn, bn⟩ := qu_next Q5.out (m := Q.length + (M.kid h L q).length) (by simp)
      exact ⟨⟨X0 ++ [q], Q ++ M.kid h L q, T4, HBF.out.step, qn, ST5.out, fun k hk => (TK4.out k hk).elim (fun h => TB.out k h) (fun h => .inr (Nat.le_trans HW1.out h)), fun k hk he => TQ5.out k hk (bn k he), G5.out⟩, HLS.out _ _ qn⟩
end Go.Proofs.YtmicgojojkkkhaaGreat
