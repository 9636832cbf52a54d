/-
  The document's own Eval, at every input. Conditions: the slices hold terms and blocks; whole numbers are such.
-/
import Derived.Test.YthbacijbgjmigaaZE10
import Derived.Deep.MidRow
import Derived.Deep.RegionHeld3
namespace Go.Proofs.Ythbacijbgjmigaa
open Go.RowKit
theorem rwithin_eq7 {A : List M.Tm} {i n : Int} {L : List Int} (h : M.withinL A i = L) (hn : M.deepE A i = n) {v : Value} (w : World) (u : Ts w v A) :
    Calls Try.prog 16 #[v, .int .i64 i] w fun e w' => ∃ v', e = .returned (.tuple #[v', .int .i64 n]) ∧ w'.ownsRow w.heap.size 3 1 v' L.length (elInt.cells L) ∧ Below w.heap.size w w' := by subst h; subst hn; exact rwithin_any A i v w u
/-- a row of values: what lies at a place -/
theorem row9_cells {W : World} {base g n : Nat} {xs : List Value} (h : W.ownsRow base 31 9 (.slice (some ⟨g, 0, none⟩) n n) n xs) {j : Nat} (hj : j < n) {x : M.Val} (hx : ∀ c, c < 9 → xs[j * 9 + c]? = (elVal.enc x)[c]?) :
    W.cell? ⟨g, j * 9, none⟩ = some (.bool x.1) ∧ W.cell? ⟨g, j * 9 + 1, none⟩ = some (.bool x.2.1) ∧ W.cell? ⟨g, j * 9 + 2, none⟩ = some (.int .u64 (M.nu x.2.2.1.1)) ∧ W.cell? ⟨g, j * 9 + 3, none⟩ = some (.int .u64 (M.nu x.2.2.1.2)) ∧ W.cell? ⟨g, j * 9 + 4, none⟩ = some (.int .u64 (M.nu x.2.2.2.1.1.1)) ∧ W.cell? ⟨g, j * 9 + 5, none⟩ = some (.int .u64 (M.nu x.2.2.2.1.1.2)) ∧ W.cell? ⟨g, j * 9 + 6, none⟩ = some (.int .u64 (M.nu x.2.2.2.1.2.1)) ∧ W.cell? ⟨g, j * 9 + 7, none⟩ = some (.int .u64 (M.nu x.2.2.2.1.2.2)) ∧ W.cell? ⟨g, j * 9 + 8, none⟩ = some (.int .i64 x.2.2.2.2) := by
  have key : ∀ c, c < 9 → W.cell? ⟨g, j * 9 + c, none⟩ = (elVal.enc x)[c]? := fun c hc => by
    rw [h.cellAt (j * 9 + c) (by omega), hx c hc]
  exact ⟨key 0 (by decide), key 1 (by decide), key 2 (by decide), key 3 (by decide), key 4 (by decide), key 5 (by decide), key 6 (by decide), key 7 (by decide), key 8 (by decide)⟩
theorem row9_there {W : World} {base g n : Nat} {xs : List Value} (h : W.ownsRow base 31 9 (.slice (some ⟨g, 0, none⟩) n n) n xs) {j : Nat} (hj : j < n) :
    ∃ u0 u1 u2 u3 u4 u5 u6 u7 u8, (W.cell? ⟨g, j * 9, none⟩ = some u0 ∧ W.cell? ⟨g, j * 9 + 1, none⟩ = some u1 ∧ W.cell? ⟨g, j * 9 + 2, none⟩ = some u2 ∧ W.cell? ⟨g, j * 9 + 3, none⟩ = some u3 ∧ W.cell? ⟨g, j * 9 + 4, none⟩ = some u4 ∧ W.cell? ⟨g, j * 9 + 5, none⟩ = some u5 ∧ W.cell? ⟨g, j * 9 + 6, none⟩ = some u6 ∧ W.cell? ⟨g, j * 9 + 7, none⟩ = some u7 ∧ W.cell? ⟨g, j * 9 + 8, none⟩ = some u8) ∧ ∀ c, W.frozen? ⟨g, c, none⟩ = false := by
  have key : ∀ c, c < 9 → ∃ u, W.cell? ⟨g, j * 9 + c, none⟩ = some u := fun c hc => by
    rw [h.cellAt (j * 9 + c) (by omega)]
    exact ⟨_, List.getElem?_eq_getElem (by have := h.1; omega)⟩
  obtain ⟨u0, h0⟩ := key 0 (by decide)
  obtain ⟨u1, h1⟩ := key 1 (by decide)
  obtain ⟨u2, h2⟩ := key 2 (by decide)
  obtain ⟨u3, h3⟩ := key 3 (by decide)
  obtain ⟨u4, h4⟩ := key 4 (by decide)
  obtain ⟨u5, h5⟩ := key 5 (by decide)
  obtain ⟨u6, h6⟩ := key 6 (by decide)
  obtain ⟨u7, h7⟩ := key 7 (by decide)
  obtain ⟨u8, h8⟩ := key 8 (by decide)
  exact ⟨u0, u1, u2, u3, u4, u5, u6, u7, u8, ⟨h0, h1, h2, h3, h4, h5, h6, h7, h8⟩, fun c => h.frozenAt c⟩
theorem row9_set {W : World} {base g n : Nat} {xs : List Value} (h : W.ownsRow base 31 9 (.slice (some ⟨g, 0, none⟩) n n) n xs) {j : Nat} (hj : j < n) (x : M.Val) :
    ∃ xs', (((((((((W.setCell ⟨g, j * 9, none⟩ (.bool x.1)).setCell ⟨g, j * 9 + 1, none⟩ (.bool x.2.1)).setCell ⟨g, j * 9 + 2, none⟩ (.int .u64 (M.nu x.2.2.1.1))).setCell ⟨g, j * 9 + 3, none⟩ (.int .u64 (M.nu x.2.2.1.2))).setCell ⟨g, j * 9 + 4, none⟩ (.int .u64 (M.nu x.2.2.2.1.1.1))).setCell ⟨g, j * 9 + 5, none⟩ (.int .u64 (M.nu x.2.2.2.1.1.2))).setCell ⟨g, j * 9 + 6, none⟩ (.int .u64 (M.nu x.2.2.2.1.2.1))).setCell ⟨g, j * 9 + 7, none⟩ (.int .u64 (M.nu x.2.2.2.1.2.2))).setCell ⟨g, j * 9 + 8, none⟩ (.int .i64 x.2.2.2.2)).ownsRow base 31 9 (.slice (some ⟨g, 0, none⟩) n n) n xs' ∧ (∀ c, c < 9 → xs'[j * 9 + c]? = (elVal.enc x)[c]?) ∧ ∀ k, k < j * 9 ∨ j * 9 + 9 ≤ k → xs'[k]? = xs[k]? := by
  have hl := h.1
  refine ⟨(((((((((xs.set (j * 9) (.bool x.1)).set (j * 9 + 1) (.bool x.2.1)).set (j * 9 + 2) (.int .u64 (M.nu x.2.2.1.1))).set (j * 9 + 3) (.int .u64 (M.nu x.2.2.1.2))).set (j * 9 + 4) (.int .u64 (M.nu x.2.2.2.1.1.1))).set (j * 9 + 5) (.int .u64 (M.nu x.2.2.2.1.1.2))).set (j * 9 + 6) (.int .u64 (M.nu x.2.2.2.1.2.1))).set (j * 9 + 7) (.int .u64 (M.nu x.2.2.2.1.2.2))).set (j * 9 + 8) (.int .i64 x.2.2.2.2)), (((((((((h.stored (j * 9) (.bool x.1)).1.stored (j * 9 + 1) (.bool x.2.1)).1.stored (j * 9 + 2) (.int .u64 (M.nu x.2.2.1.1))).1.stored (j * 9 + 3) (.int .u64 (M.nu x.2.2.1.2))).1.stored (j * 9 + 4) (.int .u64 (M.nu x.2.2.2.1.1.1))).1.stored (j * 9 + 5) (.int .u64 (M.nu x.2.2.2.1.1.2))).1.stored (j * 9 + 6) (.int .u64 (M.nu x.2.2.2.1.2.1))).1.stored (j * 9 + 7) (.int .u64 (M.nu x.2.2.2.1.2.2))).1.stored (j * 9 + 8) (.int .i64 x.2.2.2.2)).1, fun c hc => ?_, fun k hk => ?_⟩
  · obtain rfl | rfl | rfl | rfl | rfl | rfl | rfl | rfl | rfl : c = 0 ∨ c = 1 ∨ c = 2 ∨ c = 3 ∨ c = 4 ∨ c = 5 ∨ c = 6 ∨ c = 7 ∨ c = 8 := by omega
    all_goals ((try simp only [Nat.add_zero]); (repeat (rw [List.getElem?_set_ne (by omega)])); rw [List.getElem?_set_self (by (try simp only [List.length_set]); omega)]; rfl)
  · rw [List.getElem?_set_ne (by omega), List.getElem?_set_ne (by omega), List.getElem?_set_ne (by omega), List.getElem?_set_ne (by omega), List.getElem?_set_ne (by omega), List.getElem?_set_ne (by omega), List.getElem?_set_ne (by omega), List.getElem?_set_ne (by omega), List.getElem?_set_ne (by omega)]
theorem below_set9q {w W : World} {n B : Nat} (h : Below n w W) (hB : n ≤ B) (o0 o1 o2 o3 o4 o5 o6 o7 o8 : Nat) (a b c d e f g i j : Value) : Below n w (((((((((W.setCell ⟨B, o0, none⟩ a).setCell ⟨B, o1, none⟩ b).setCell ⟨B, o2, none⟩ c).setCell ⟨B, o3, none⟩ d).setCell ⟨B, o4, none⟩ e).setCell ⟨B, o5, none⟩ f).setCell ⟨B, o6, none⟩ g).setCell ⟨B, o7, none⟩ i).setCell ⟨B, o8, none⟩ j) :=
  ((((((((h.setCell hB _).setCell hB _).setCell hB _).setCell hB _).setCell hB _).setCell hB _).setCell hB _).setCell hB _).setCell hB _
theorem wp_sto9 {op : Oper} {a : Act} {w : World} {K : Act → World → Prop} {Q : Exit → Act → World → Prop} {ty : TypeId} {x y : Operand} (ho : op.op = .store ty x y) (g j : Nat) (L : List Value) (WZ : World) (hx : a.eval x = .pointer (some ⟨g, j * 9, none⟩)) (hy : a.eval y = .agg L.toArray)
    (hst : (Instr.storeAt ty (.pointer (some ⟨g, j * 9, none⟩)) (.agg L.toArray)).run Try.prog w = .ok () WZ) (h : K (a.put op.dst undef) WZ) : op.wp Try.prog a w K Q := by
  unfold Oper.wp execOp
  simp only [ho, hx, hy, Sem.run_bind, Sem.run_pure, hst, Result.andThen_ok]
  exact h
theorem wpList_sto9 {ops : Array Oper} {rest : List Oper} {a : Act} {w : World} {Q : Exit → Act → World → Prop} {dst : Option Tmp} {ty tt : TypeId} {x y : Operand} {pos : String} {af : Array Edge} (g j : Nat) (L : List Value) (WZ : World) (hx : a.eval x = .pointer (some ⟨g, j * 9, none⟩)) (hy : a.eval y = .agg L.toArray)
    (hst : (Instr.storeAt ty (.pointer (some ⟨g, j * 9, none⟩)) (.agg L.toArray)).run Try.prog w = .ok () WZ) (h : wpList Try.prog ops Q rest (a.put dst undef) WZ) : wpList Try.prog ops Q ({ dst := dst, op := .store ty x y, type := tt, pos := pos, after := af, guard := none } :: rest) a w :=
  wpList_plain rfl fun _ hK => wp_sto9 rfl g j L WZ hx hy hst (hK _ _ h)
theorem step_sto9 {ops : Array Oper} {o : Oper} {a : Act} {w : World} {K : Act → World → Prop} {Q : Exit → Act → World → Prop} {E : Prop} {ty : TypeId} {x y : Operand} (hgd : Region.wanted o (yielded ops a.tmps) = true) (ho : o.op = .store ty x y) (g j : Nat) (L : List Value) (WZ : World) (hx : a.eval x = .pointer (some ⟨g, j * 9, none⟩)) (hy : a.eval y = .agg L.toArray)
    (hst : (Instr.storeAt ty (.pointer (some ⟨g, j * 9, none⟩)) (.agg L.toArray)).run Try.prog w = .ok () WZ) (h : K (a.put o.dst undef) WZ) : if Region.wanted o (yielded ops a.tmps) = true then Oper.wp Try.prog o a w K Q else E := by
  rw [if_pos hgd]
  exact wp_sto9 ho g j L WZ hx hy hst h
theorem below_putL {B : Nat} {a : World} {g : Nat} (hg : B ≤ g) : ∀ (L : List Value) (o : Nat) (W : World), Below B a W → Below B a (W.setCells g o L)
  | [], _, _, h => h
  | v :: L, o, W, h => by rw [World.setCells]; exact below_putL hg L (o + 1) _ (h.setCell hg v)
theorem info9 : (Try.prog.info? 31).map (·.size) = some 9 := by kernel_rfl
/-- a value is stored at a place of a row of values: what the operation comes to -/
theorem put9 {W : World} {base g n : Nat} {xs : List Value} (h : W.ownsRow base 31 9 (.slice (some ⟨g, 0, none⟩) n n) n xs) {j : Nat} (hj : j < n) (x : M.Val) (L : List Value) (hL : elVal.enc x = L) {B : Nat} {a : World} (hb : Below B a W) (hB : B ≤ g) :
    ∃ WZ xs', (Instr.storeAt 31 (.pointer (some ⟨g, j * 9, none⟩)) (.agg L.toArray)).run Try.prog W = .ok () WZ ∧ WZ.ownsRow base 31 9 (.slice (some ⟨g, 0, none⟩) n n) n xs' ∧ (∀ c, c < 9 → xs'[j * 9 + c]? = (elVal.enc x)[c]?) ∧ (∀ k, k < j * 9 ∨ j * 9 + 9 ≤ k → xs'[k]? = xs[k]?) ∧ Below B a WZ ∧ (∀ b o, b ≠ g ∨ o < j * 9 ∨ j * 9 + 9 ≤ o → WZ.cell? ⟨b, o, none⟩ = W.cell? ⟨b, o, none⟩) := by
  have hl : L.length = 9 := by rw [← hL]; exact elVal.len x
  have ht : W.there g (j * 9) L.toArray.size := by
    intro c hc
    rw [List.size_toArray, hl] at hc
    refine ⟨?_, h.frozenAt _⟩
    rw [h.cellAt (j * 9 + c) (by omega)]
    have := h.1
    rw [List.getElem?_eq_getElem (by omega)]; rfl
  have hst := run_storeAt_mid (P := Try.prog) W g (j * 9) 31 L.toArray ht (by rw [List.size_toArray, hl]; exact info9) (all_oneCell_toArray (fun v hv => elVal.one x v (by rw [hL]; exact hv)))
  obtain ⟨xs', o1, o2, o3⟩ := row9_set h hj x
  rw [List.toList_toArray] at hst
  refine ⟨W.setCells g (j * 9) L, xs', hst, ?_, o2, o3, below_putL hB L _ W hb, fun b o hbo => ?_⟩
  · rw [← hL]; exact o1
  · exact World.cell?_setCells_out g L (j * 9) W ⟨b, o, none⟩ (fun hb' _ => by rcases hbo with h1 | h1 | h1; exact absurd hb' h1; exact .inl h1; exact .inr (by rw [hl]; exact h1))
theorem Try.infoValq : (Try.prog.info? 31).map (fun i => (i.zero, i.size, i.bytes)) = some (some (.agg #[.bool false, .bool false, .int .u64 0, .int .u64 0, .int .u64 0, .int .u64 0, .int .u64 0, .int .u64 0, .int .i64 0]), 9, 64) := by kernel_rfl
set_option maxRecDepth 100000 in
set_option maxHeartbeats 4000000 in
theorem reval_no {A : List M.Tm} {i : Int} {T : List M.Blk} {n : Int} (hn : M.deepE A i = n) (h0 : ¬ n = 0) {vl va : Value} (w : World) (u : Ts w vl A) (ua : Bks w va T) :
    Calls Try.prog 6 #[vl, .int .i64 i, va] w fun e w' => e = .returned (.tuple #[(.agg #[.bool M.zV.1, .bool M.zV.2.1, .int .u64 (M.nu M.zV.2.2.1.1), .int .u64 (M.nu M.zV.2.2.1.2), .int .u64 (M.nu M.zV.2.2.2.1.1.1), .int .u64 (M.nu M.zV.2.2.2.1.1.2), .int .u64 (M.nu M.zV.2.2.2.1.2.1), .int .u64 (M.nu M.zV.2.2.2.1.2.2), .int .i64 M.zV.2.2.2.2]), .int .i64 n]) ∧ Below w.heap.size w w' := by
  rw [zV_eq]
  have XZ := hidq (zbox w)
  have U0 := hidq (u.alloc (.cells #[.bool false, .bool false, .int .u64 0, .int .u64 0, .int .u64 0, .int .u64 0, .int .u64 0, .int .u64 0, .int .i64 0] 31))
  have K0 := hidq (ua.alloc (.cells #[.bool false, .bool false, .int .u64 0, .int .u64 0, .int .u64 0, .int .u64 0, .int .u64 0, .int .u64 0, .int .i64 0] 31))
  have B0 := hidq (show Below w.heap.size w (w.alloc (.cells #[.bool false, .bool false, .int .u64 0, .int .u64 0, .int .u64 0, .int .u64 0, .int .u64 0, .int .u64 0, .int .i64 0] 31)) from below_one (Below.refl _ _))
  obtain ⟨I, hI⟩ : ∃ I, M.withinL A i = I := ⟨_, rfl⟩
  have WC := hidq (fun W (u : Ts W vl A) => rwithin_eq7 hI hn W u)
  have FI : Hid (∀ x ∈ I, elInt.ok x) := fun x hx => by
    rw [← hI] at hx
    unfold M.withinL at hx
    by_cases ht : M.thr A i = true
    · unfold M.deepE at hn; rw [if_pos ht] at hn; exact absurd hn.symm h0
    · rw [if_neg ht] at hx; cases hx
  have hb : (n == 0) = false := by simpa using h0
  clear hI hn u ua
  go_enter Try.func6, Try.ntmps6
  go_wp2_with (first | (go_at_call 16; refine (WC.out _ U0.out).mono ?_; rintro e w1 ⟨v1, rfl, ho1, hb1⟩; obtain ⟨a1, k1, rfl, _⟩ := own_formq ho1; have XW := XZ.out.below hb1; obtain ⟨c0, c1, c2, c3, c4, c5, c6, c7, c8⟩ := XW.cells; obtain ⟨f0, f1, f2, f3, f4, f5, f6, f7, f8⟩ := XW.frozen; have B1 := hidq (below_trans B0.out hb1); clear ho1 hb1 XW))
  refine bodyPost_ret (v := .tuple #[.agg #[.bool _, .bool _, .int .u64 _, .int .u64 _, .int .u64 _, .int .u64 _, .int .u64 _, .int .u64 _, .int .i64 _], .int .i64 _]) (by simp [results, go_sem, c0, c1, c2, c3, c4, c5, c6, c7, c8, Try.results6]) rfl ⟨rfl, below_set9 B1.out (by omega) _ _ _ _ _ _ _ _ _⟩
set_option maxRecDepth 100000 in
set_option maxHeartbeats 40000000 in
theorem reval_ok {A : List M.Tm} {i : Int} {T : List M.Blk} {x : M.Val} {n : Int} (hd : M.deepE A i = 0) (hx : M.evalV A i T = x) (hn : M.evalE A i T.length = n) {vl va : Value} (w : World) (u : Ts w vl A) (ua : Bks w va T) :
    Calls Try.prog 6 #[vl, .int .i64 i, va] w fun e w' => e = .returned (.tuple #[(.agg #[.bool x.1, .bool x.2.1, .int .u64 (M.nu x.2.2.1.1), .int .u64 (M.nu x.2.2.1.2), .int .u64 (M.nu x.2.2.2.1.1.1), .int .u64 (M.nu x.2.2.2.1.1.2), .int .u64 (M.nu x.2.2.2.1.2.1), .int .u64 (M.nu x.2.2.2.1.2.2), .int .i64 x.2.2.2.2]), .int .i64 n]) ∧ Below w.heap.size w w' := by
  obtain ⟨hA, hm0, hi0, hWin, hRise⟩ := M.within_win hd
  have HFit := hidq u.oks
  obtain ⟨ab, cb, rfl, _, _, _⟩ := ua.form
  obtain ⟨ao, cl, rfl, hlc, _, hlp⟩ := u.form
  obtain ⟨bl, ol, rfl⟩ := hlp (by omega)
  have XZ := hidq (zbox w)
  have U0 := hidq (u.alloc (.cells #[.bool false, .bool false, .int .u64 0, .int .u64 0, .int .u64 0, .int .u64 0, .int .u64 0, .int .u64 0, .int .i64 0] 31))
  have K0 := hidq (ua.alloc (.cells #[.bool false, .bool false, .int .u64 0, .int .u64 0, .int .u64 0, .int .u64 0, .int .u64 0, .int .u64 0, .int .i64 0] 31))
  have B0 := hidq (show Below w.heap.size w (w.alloc (.cells #[.bool false, .bool false, .int .u64 0, .int .u64 0, .int .u64 0, .int .u64 0, .int .u64 0, .int .u64 0, .int .i64 0] 31)) from below_one (Below.refl _ _))
  obtain ⟨I, hI⟩ : ∃ I, M.withinL A i = I := ⟨_, rfl⟩
  have WC := hidq (fun W (u : Ts W (.slice (some ⟨bl, ol, none⟩) A.length cl) A) => rwithin_eq7 hI hd W u)
  rw [hI] at hWin hRise
  have HI := hidq hI
  have RI : Hid (∀ x ∈ I, 0 ≤ x ∧ x < (A.length : Int)) := fun x hx => by
    obtain ⟨q, hq, rfl⟩ := List.mem_iff_getElem.1 hx
    have := (hWin.2.2.2.1 q _ (List.getElem?_eq_getElem hq))
    omega
  have FI : Hid (∀ x ∈ I, elInt.ok x) := fun x hx => by
    have := RI.out x hx
    have := hA.1
    exact show M.fitI x from ⟨by omega, by omega⟩
  have HA := hidq hA
  have WN := hidq hWin
  have RS := hidq hRise
  have HX := hidq hx
  have HN := hidq hn
  have HD := hidq hd
  have hIl : I.length ≤ 65536 := by have := hWin.2.1; have := hA.1; omega
  obtain ⟨m, rfl⟩ : ∃ m : Nat, i = m := ⟨i.toNat, by omega⟩
  rw [Int.toNat_natCast] at WN hm0
  have hcl : ¬ cl = 0 := by omega
  clear hI hd hA hWin hRise hx hn hi0 hlp u ua
  generalize hnI : I.length = nI at *
  have HNI := hidq hnI
  clear hnI
  go_enter Try.func6, Try.ntmps6
  go_wp2_with (first | (go_at_call 16; refine (WC.out _ U0.out).mono ?_; rintro e w1 ⟨v1, rfl, ho1, hb1⟩; obtain ⟨a1, k1, rfl, _⟩ := own_formq ho1; have I1 := hidq (Sl.of_own (E := elInt) ho1 FI.out); have XZ1 := hidq (XZ.out.below hb1); have U1 := hidq (U0.out.below hb1); have K1 := hidq (K0.out.below hb1); have B1 := hidq (below_trans B0.out hb1); clear ho1 hb1))
  go_loopw [34] (fun x wr => ∃ q : Nat, q ≤ nI ∧ x = .int .i64 q ∧ (I.take q).any (fun k => M.usesS A (M.at_ A k.toNat)) = false ∧ Below w1.heap.size w1 wr) (fun x _ => nI - (intOf x).toNat)
  case atStart => exact ⟨0, by omega, rfl, by simp, Below.refl _ _⟩
  case round =>
    obtain ⟨q, hq, rfl, hno, hbw⟩ := hrel
    have NO := hidq hno
    have BW := hidq hbw
    clear hno hbw
    by_cases hlt : q < nI
    · obtain ⟨k, hk⟩ : ∃ k, I[q]? = some k := ⟨_, List.getElem?_eq_getElem (by rw [HNI.out]; exact hlt)⟩
      obtain ⟨r0, r1⟩ := RI.out k (List.mem_of_getElem? hk)
      obtain ⟨j, rfl⟩ : ∃ j : Nat, k = j := ⟨k.toNat, by omega⟩
      have hj : j < A.length := by omega
      have I4 := I1.out.below BW.out
      obtain ⟨bI, oI, rfl⟩ : ∃ b off, a1 = some ⟨b, off, none⟩ := by
        obtain ⟨aa, cc, e, p1, _, p3⟩ := I4.form
        rw [HNI.out] at e p1
        simp only [Value.slice.injEq] at e
        obtain ⟨rfl, _, rfl⟩ := e
        exact p3 (by omega)
      have kc : ¬ k1 = 0 := by
        obtain ⟨aa, cc, e, p1, _, p3⟩ := I4.form
        rw [HNI.out] at e p1
        simp only [Value.slice.injEq] at e
        obtain ⟨_, _, rfl⟩ := e
        omega
      have ci := Is.cellv I4 hk
      obtain ⟨τ, hτ⟩ : ∃ τ, M.at_ A j = τ := ⟨_, rfl⟩
      obtain ⟨x1, x2, x3⟩ := Ts.cell (U1.out.below BW.out) hj
      rw [hτ] at x1 x2 x3
      have HT := hidq hτ
      have HK := hidq hk
      have hmay := (HA.out.2 j hj).1
      rw [hτ] at hmay
      have PA := hidq (fun p hp => M.parts_ahead hmay p hp)
      have FPt : Hid (∀ x ∈ M.parts τ, elInt.ok x) := fun x hx => by
        have := M.parts_ahead hmay x hx
        have := HA.out.1
        exact show M.fitI x from ⟨by omega, by omega⟩
      have j0 : (0 : Int) ≤ j := by omega
      clear hk hτ hmay I4
      go_wp2_with (first | (go_at_call 17; refine (rparts_any τ _).mono ?_; rintro e w2 ⟨v2, rfl, ho2, hb2⟩; obtain ⟨a2, k2, rfl, hp2⟩ := own_formq ho2; have PS := hidq (Sl.of_own (E := elInt) ho2 FPt.out); have HP2 := hidq hp2; have BW2 := hidq (below_trans BW.out hb2); clear ho2 hb2 hp2))
      obtain ⟨np, hnp⟩ : ∃ np, (M.parts τ).length = np := ⟨_, rfl⟩
      have HNP := hidq hnp
      rw [hnp] at PS HP2 ⊢
      have hnp2 : np ≤ 2 := by rw [← hnp]; unfold M.parts; split <;> (try split) <;> simp
      clear hnp ci x1 x2 x3
      go_loopw [44] (fun x wr => ∃ r : Nat, r ≤ np ∧ x = .int .i64 r ∧ ((M.parts τ).take r).any (fun p => decide ((M.at_ A p.toNat).1 = 5)) = false ∧ Below w1.heap.size w1 wr ∧ Is wr (.slice a2 np k2) (M.parts τ)) (fun x _ => np - (intOf x).toNat)
      case atStart => exact ⟨0, by omega, rfl, by simp, BW2.out, PS.out⟩
      case round =>
        obtain ⟨r, hr, rfl, hno, hbw, hps⟩ := hrel
        have NO2 := hidq hno
        have BW3 := hidq hbw
        have PS3 := hidq hps
        clear hno hbw hps
        by_cases hlt2 : r < np
        · obtain ⟨p, hp⟩ : ∃ p, (M.parts τ)[r]? = some p := ⟨_, List.getElem?_eq_getElem (by rw [HNP.out]; exact hlt2)⟩
          obtain ⟨s0, s1⟩ := PA.out p (List.mem_of_getElem? hp)
          obtain ⟨jp, rfl⟩ : ∃ jp : Nat, p = jp := ⟨p.toNat, by omega⟩
          have hjp : jp < A.length := by omega
          obtain ⟨g2, rfl, _⟩ := HP2.out (by omega)
          have cp := Is.cellv PS3.out hp
          rw [Nat.zero_add] at cp
          obtain ⟨y1, y2, y3⟩ := Ts.cell (U1.out.below BW3.out) hjp
          have HP := hidq hp
          have k2c : ¬ k2 = 0 := by
            obtain ⟨aa, cc, e, q1, _, q3⟩ := PS3.out.form
            rw [HNP.out] at e q1
            simp only [Value.slice.injEq] at e
            obtain ⟨_, _, rfl⟩ := e
            omega
          have jp0 : (0 : Int) ≤ jp := by omega
          have r0' : (0 : Int) ≤ r := by omega
          clear hp y2 y3
          by_cases k5 : (M.at_ A jp).1 = 5
          · have hU : M.usesS A (M.at_ A j) = true := by
              rw [HT.out]; unfold M.usesS; rw [List.any_eq_true]
              exact ⟨(jp : Int), List.mem_of_getElem? HP.out, by rw [Int.toNat_natCast]; simpa using k5⟩
            have hany : (M.withinL A (m : Int)).any (fun k => M.usesS A (M.at_ A k.toNat)) = true := by
              rw [HI.out, List.any_eq_true]
              exact ⟨(j : Int), List.mem_of_getElem? HK.out, by rw [Int.toNat_natCast]; exact hU⟩
            obtain rfl : n = 1 := by rw [← HN.out]; unfold M.evalE; rw [if_pos HD.out, if_pos hany]
            obtain rfl : x = M.zV := by rw [← HX.out]; unfold M.evalV; rw [HN.out, if_neg (by decide)]
            rw [k5] at y1
            have XW := XZ1.out.below BW3.out
            obtain ⟨c0, c1, c2, c3, c4, c5, c6, c7, c8⟩ := XW.cells; obtain ⟨f0, f1, f2, f3, f4, f5, f6, f7, f8⟩ := XW.frozen
            have BZ := hidq (below_trans B1.out BW3.out)
            clear XW hU hany k5
            go_wp2
            refine bodyPost_ret (v := .tuple #[(.agg #[.bool false, .bool false, .int .u64 0, .int .u64 0, .int .u64 0, .int .u64 0, .int .u64 0, .int .u64 0, .int .i64 0]), .int .i64 _]) (by simp [results, go_sem, c0, c1, c2, c3, c4, c5, c6, c7, c8, Try.results6]) rfl ⟨rfl, below_set9 BZ.out (by omega) _ _ _ _ _ _ _ _ _⟩
          · have NX := hidq (any_take_nextq HP.out NO2.out (p := fun p => decide ((M.at_ A p.toNat).1 = 5)) (by rw [Int.toNat_natCast]; simpa using k5))
            generalize (M.at_ A jp).1 = kk at *
            have k5b : (kk == 5) = false := by simpa using k5
            go_wp2
            go_roundw
            case rel => exact ⟨r + 1, by omega, by go_num, NX.out, BW3.out, PS3.out⟩
            case measure => simp [intOf]; omega
        · have hU : M.usesS A (M.at_ A j) = false := by
            rw [HT.out]; unfold M.usesS; rw [← NO2.out, List.take_of_length_le (by rw [HNP.out]; omega)]
          have NX := hidq (any_take_nextq HK.out NO.out (p := fun k => M.usesS A (M.at_ A k.toNat)) (by rw [Int.toNat_natCast]; exact hU))
          clear hU
          go_wp2
          go_roundw
          case rel => exact ⟨q + 1, by omega, by go_num, NX.out, BW3.out⟩
          case measure => simp [intOf]; omega
    · have R1 : Hid (I.any (fun k => M.usesS A (M.at_ A k.toNat)) = false) := by
        have := NO.out
        rw [List.take_of_length_le (by rw [HNI.out]; omega)] at this
        exact this
      obtain ⟨w2, hw2⟩ : ∃ w2, wr = w2 := ⟨_, rfl⟩
      have I2 := hidq (I1.out.below BW.out)
      have U2 := hidq (U1.out.below BW.out)
      have K2 := hidq (K1.out.below BW.out)
      have XZ2 := hidq (XZ1.out.below BW.out)
      have B2 := hidq (below_trans B1.out BW.out)
      rw [hw2] at I2 U2 K2 XZ2 B2 ⊢
      clear NO BW hw2 I1 U1 K1 XZ1 B1
      go_wp2
      go_loopw [59] (fun x wr => ∃ q : Nat, q ≤ nI ∧ x = .int .i64 q ∧ (I.take q).any (fun k => M.noBlk T.length (M.at_ A k.toNat)) = false ∧ wr = w2) (fun x _ => nI - (intOf x).toNat)
      case atStart => exact ⟨0, by omega, rfl, by simp, rfl⟩
      case round =>
        obtain ⟨q, hq, rfl, hno, rfl⟩ := hrel
        have NO := hidq hno
        clear hno
        by_cases hlt : q < nI
        · obtain ⟨k, hk⟩ : ∃ k, I[q]? = some k := ⟨_, List.getElem?_eq_getElem (by rw [HNI.out]; exact hlt)⟩
          obtain ⟨r0, r1⟩ := RI.out k (List.mem_of_getElem? hk)
          obtain ⟨j, rfl⟩ : ∃ j : Nat, k = j := ⟨k.toNat, by omega⟩
          have hj : j < A.length := by omega
          obtain ⟨bI, oI, rfl⟩ : ∃ b off, a1 = some ⟨b, off, none⟩ := by
            obtain ⟨aa, cc, e, p1, _, p3⟩ := I2.out.form
            rw [HNI.out] at e p1
            simp only [Value.slice.injEq] at e
            obtain ⟨rfl, _, rfl⟩ := e
            exact p3 (by omega)
          have kc : ¬ k1 = 0 := by
            obtain ⟨aa, cc, e, p1, _, p3⟩ := I2.out.form
            rw [HNI.out] at e p1
            simp only [Value.slice.injEq] at e
            obtain ⟨_, _, rfl⟩ := e
            omega
          have ci := Is.cellv I2.out hk
          obtain ⟨τ, hτ⟩ : ∃ τ, M.at_ A j = τ := ⟨_, rfl⟩
          obtain ⟨x1, x2, x3⟩ := Ts.cell U2.out hj
          rw [hτ] at x1 x2 x3
          have HT := hidq hτ
          have HK := hidq hk
          have j0 : (0 : Int) ≤ j := by omega
          clear hk hτ
          by_cases k1c : τ.1 = 1
          · have k1b : (τ.1 == 1) = true := by simpa using k1c
            by_cases k2c : (T.length : Int) ≤ τ.2.1
            · have hN : M.noBlk T.length (M.at_ A j) = true := by rw [HT.out]; unfold M.noBlk; simp [k1c, k2c]
              have h1 : (M.withinL A (m : Int)).any (fun k => M.usesS A (M.at_ A k.toNat)) = false := by rw [HI.out]; exact R1.out
              have h2 : (M.withinL A (m : Int)).any (fun k => M.noBlk T.length (M.at_ A k.toNat)) = true := by
                rw [HI.out, List.any_eq_true]
                exact ⟨(j : Int), List.mem_of_getElem? HK.out, by rw [Int.toNat_natCast]; exact hN⟩
              obtain rfl : n = 4 := by rw [← HN.out]; unfold M.evalE; rw [if_pos HD.out, h1, if_neg (by decide), if_pos h2]
              obtain rfl : x = M.zV := by rw [← HX.out]; unfold M.evalV; rw [HN.out, if_neg (by decide)]
              have XW := XZ2.out
              obtain ⟨c0, c1, c2, c3, c4, c5, c6, c7, c8⟩ := XW.cells; obtain ⟨f0, f1, f2, f3, f4, f5, f6, f7, f8⟩ := XW.frozen
              clear XW hN h1 h2
              go_wp2
              refine bodyPost_ret (v := .tuple #[(.agg #[.bool false, .bool false, .int .u64 0, .int .u64 0, .int .u64 0, .int .u64 0, .int .u64 0, .int .u64 0, .int .i64 0]), .int .i64 _]) (by simp [results, go_sem, c0, c1, c2, c3, c4, c5, c6, c7, c8, Try.results6]) rfl ⟨rfl, below_set9 B2.out (by omega) _ _ _ _ _ _ _ _ _⟩
            · have NX := hidq (any_take_nextq HK.out NO.out (p := fun k => M.noBlk T.length (M.at_ A k.toNat)) (by rw [Int.toNat_natCast, HT.out]; unfold M.noBlk; simp [k2c]))
              go_wp2
              go_roundw
              case rel => exact ⟨q + 1, by omega, by go_num, NX.out, trivial⟩
              case measure => simp [intOf]; omega
          · have k1b : (τ.1 == 1) = false := by simpa using k1c
            have NX := hidq (any_take_nextq HK.out NO.out (p := fun k => M.noBlk T.length (M.at_ A k.toNat)) (by rw [Int.toNat_natCast, HT.out]; unfold M.noBlk; simp [k1c]))
            go_wp2
            go_roundw
            case rel => exact ⟨q + 1, by omega, by go_num, NX.out, trivial⟩
            case measure => simp [intOf]; omega
        · have R2 : Hid (I.any (fun k => M.noBlk T.length (M.at_ A k.toNat)) = false) := by
            have := NO.out
            rw [List.take_of_length_le (by rw [HNI.out]; omega)] at this
            exact this
          obtain rfl : n = 0 := by rw [← HN.out]; unfold M.evalE; rw [if_pos HD.out, HI.out, R1.out, if_neg (by decide), R2.out, if_neg (by decide)]
          have HE : Hid (M.ev A T m = x) := by
            have := HX.out
            unfold M.evalV at this
            rw [HN.out, if_pos rfl, Int.toNat_natCast] at this
            exact this
          have AT : Hid (∀ k ∈ I, (M.at_ A k.toNat).1 = 1 → (M.at_ A k.toNat).2.1 < (T.length : Int)) := fun k hk hk1 => by
            have := List.any_eq_false.1 R2.out k hk
            unfold M.noBlk at this
            simp only [hk1, decide_true, Bool.true_and, decide_eq_true_eq] at this
            omega
          clear NO HN HX R1 R2
          obtain ⟨wo, hwo⟩ : ∃ wo, wo = wr := ⟨_, rfl⟩
          subst hwo
          obtain ⟨i0, hi, hz0, hz1, hz2⟩ := info_partsq Try.infoValq
          obtain ⟨n, hn⟩ : ∃ n, m + 1 = n := ⟨_, rfl⟩
          have hni : (m : Int) + 1 = n := by omega
          have hnw := wrap64 (x := (n : Int)) (by omega) (by have := HA.out.1; omega)
          have Hn := hidq hn
          have hn16 : n ≤ 65537 := by have := HA.out.1; omega
          clear hn
          go_wp2_with (at_make; refine wpList_make_full _ rfl _ _ 51 rfl wo.heap.size 31 i0 (.agg #[.bool false, .bool false, .int .u64 0, .int .u64 0, .int .u64 0, .int .u64 0, .int .u64 0, .int .u64 0, .int .i64 0]) 9 Try.underlying51 hi hz0 hz1 _ _ _ _ n rfl rfl (by first | rfl | omega) (by first | rfl | omega) ?b2 ?b3 ?b4 ?_)
          case b2 => rw [hz2]; omega
          case b3 => unfold maxLen; omega
          case b4 => exact Nat.le_refl _
          intro w3 hown hgrow
          have hB3 : Below wo.heap.size wo w3 := below_grownq hgrow rfl
          have hg3 : wo.heap.size < w3.heap.size := (hown.lt _ rfl).2
          generalize (madeCells _ (n * 9)).toList = xs0 at hown
          obtain ⟨g, hgd⟩ : ∃ g, wo.heap.size = g := ⟨_, rfl⟩
          have HOW := hidq hown
          have HB3 := hidq hB3
          have HG := hidq hgd
          clear hgrow hown hB3
          rw [hgd] at HOW ⊢
          go_wp2
          go_loopw [86] (fun x wr => ∃ q : Nat, q ≤ nI ∧ x = .int .i64 q ∧ (∃ xs, wr.ownsRow g 31 9 (.slice (some ⟨g, 0, none⟩) n n) n xs ∧ ∀ p ∈ I.take q, ∀ c, c < 9 → xs[p.toNat * 9 + c]? = (elVal.enc (M.ev A T p.toNat))[c]?) ∧ Below g wo wr) (fun x _ => nI - (intOf x).toNat)
          case atStart => exact ⟨0, by omega, rfl, ⟨xs0, HOW.out, fun p hp => by simp at hp⟩, by rw [← HG.out]; exact HB3.out⟩
          case round =>
            obtain ⟨q, hq, rfl, ⟨xs, hox, hval⟩, hbz⟩ := hrel
            have OX := hidq hox
            have VX := hidq hval
            have BZ := hidq hbz
            clear hox hval hbz
            have BY := hidq (show Below wo.heap.size wo wr by rw [HG.out]; exact BZ.out)
            by_cases hlt : q < nI
            · obtain ⟨k, hk⟩ : ∃ k, I[q]? = some k := ⟨_, List.getElem?_eq_getElem (by rw [HNI.out]; exact hlt)⟩
              obtain ⟨r0, r1⟩ := RI.out k (List.mem_of_getElem? hk)
              obtain ⟨j, rfl⟩ : ∃ j : Nat, k = j := ⟨k.toNat, by omega⟩
              have hj : j < A.length := by omega
              have hjn : j < n := by have := (WN.out.2.2.2.1 q _ hk).2.1; have := Hn.out; omega
              have I4 := I2.out.below BY.out
              obtain ⟨bI, oI, rfl⟩ : ∃ b off, a1 = some ⟨b, off, none⟩ := by
                obtain ⟨aa, cc, e, p1, _, p3⟩ := I4.form
                rw [HNI.out] at e p1
                simp only [Value.slice.injEq] at e
                obtain ⟨rfl, _, rfl⟩ := e
                exact p3 (by omega)
              have kc : ¬ k1 = 0 := by
                obtain ⟨aa, cc, e, p1, _, p3⟩ := I4.form
                rw [HNI.out] at e p1
                simp only [Value.slice.injEq] at e
                obtain ⟨_, _, rfl⟩ := e
                omega
              have ci := Is.cellv I4 hk
              obtain ⟨⟨tk, ta, tb⟩, hτ⟩ : ∃ τ, M.at_ A j = τ := ⟨_, rfl⟩
              obtain ⟨x1, x2, x3⟩ := Ts.cell (U2.out.below BY.out) hj
              rw [hτ] at x1 x2 x3
              have hmay := (HA.out.2 j hj).1
              have hev := M.ev_eq (T := T) hmay
              rw [hτ] at hmay hev
              dsimp only at x1 x2 x3
              have NXT : Hid (∀ (W : World) (ys : List Value), W.ownsRow g 31 9 (.slice (some ⟨g, 0, none⟩) n n) n ys → (∀ c, c < 9 → ys[j * 9 + c]? = (elVal.enc (M.ev A T j))[c]?) → (∀ k, k < j * 9 ∨ j * 9 + 9 ≤ k → ys[k]? = xs[k]?) → ∃ zs, W.ownsRow g 31 9 (.slice (some ⟨g, 0, none⟩) n n) n zs ∧ ∀ p ∈ I.take (q + 1), ∀ c, c < 9 → zs[p.toNat * 9 + c]? = (elVal.enc (M.ev A T p.toNat))[c]?) := fun W ys h1 h2 h3 => ⟨ys, h1, fun p hp c hc => by
                obtain ⟨hq', e⟩ := List.getElem?_eq_some_iff.1 hk
                rw [List.take_succ_eq_append_getElem hq', e] at hp
                by_cases hpj : p.toNat = j
                · rw [hpj]; exact h2 c hc
                · rcases List.mem_append.1 hp with hp | hp
                  · rw [h3 _ (by omega)]; exact VX.out p hp c hc
                  · rw [List.mem_singleton] at hp; subst hp; exact absurd (Int.toNat_natCast j) hpj⟩
              rcases M.may_kinds hmay with t1 | t1 | t1
              · dsimp only at t1
                subst t1
                obtain ⟨ta0, ta1⟩ : 0 ≤ ta ∧ ta < (T.length : Int) := by
                  refine ⟨?_, ?_⟩
                  · rcases M.may_kind hmay with h | h | h
                    · exact h.2.1
                    · exact h.2.1
                    · exact h.2.1
                  · have := AT.out (j : Int) (List.mem_of_getElem? hk) (by rw [Int.toNat_natCast, hτ])
                    rw [Int.toNat_natCast, hτ] at this
                    exact this
                obtain ⟨a, rfl⟩ : ∃ a : Nat, ta = a := ⟨ta.toNat, by omega⟩
                obtain ⟨y, hy⟩ : ∃ y, T[a]? = some y := ⟨_, List.getElem?_eq_getElem (by omega)⟩
                have e1 : M.ev A T j = M.ofB y := by rw [hev]; unfold M.stepE; rw [if_pos rfl]; dsimp only; rw [Int.toNat_natCast, hy]; rfl
                obtain ⟨bb, ob, rfl⟩ : ∃ b off, ab = some ⟨b, off, none⟩ := by
                  obtain ⟨aa, cc, e, p1, _, p3⟩ := K2.out.form
                  simp only [Value.slice.injEq] at e
                  obtain ⟨rfl, _, rfl⟩ := e
                  exact p3 (by omega)
                have cbc : ¬ cb = 0 := by
                  obtain ⟨aa, cc, e, p1, _, p3⟩ := K2.out.form
                  simp only [Value.slice.injEq] at e
                  obtain ⟨_, _, rfl⟩ := e
                  omega
                obtain ⟨b1, b2⟩ := Bks.cell ((K2.out.below BY.out).alloc (.cells #[.int .i64 1, .int .i64 (a : Int), .int .i64 tb] 45)) hy
                have OT := own_keptq OX.out (below_one (o := .cells #[.int .i64 1, .int .i64 (a : Int), .int .i64 tb] 45) (Below.refl wr.heap.size wr))
                obtain ⟨WZ, ys, hst, n1, n2, n3, nb, _⟩ := put9 OT hjn (M.ofB y) [.bool false, .bool false, .int .u64 (M.nu y.1), .int .u64 (M.nu y.2), .int .u64 0, .int .u64 0, .int .u64 0, .int .u64 0, .int .i64 0] rfl (BZ.out.alloc (Nat.le_of_lt (OX.out.lt _ rfl).2) (.cells #[.int .i64 1, .int .i64 (a : Int), .int .i64 tb] 45)) (Nat.le_refl g)
                rw [← e1] at n2
                have NN := hidq (NXT.out _ ys n1 n2 n3)
                have BN := hidq nb
                have j0 : (0 : Int) ≤ j := by omega
                have a0 : (0 : Int) ≤ a := by omega
                have hjz : (j : Int) < n := by omega
                clear n1 n2 n3 OT hev hmay hτ hk hy e1 I4 nb NXT
                go_upto_region 29 with fail
                go_wp2_with (refine wpList_sto9 g j [.bool false, .bool false, .int .u64 (M.nu y.1), .int .u64 (M.nu y.2), .int .u64 0, .int .u64 0, .int .u64 0, .int .u64 0, .int .i64 0] WZ rfl rfl hst ?_)
                go_roundw
                case rel => exact ⟨q + 1, by omega, by go_num, NN.out, BN.out⟩
                case measure => simp [intOf]; omega
              · dsimp only at t1
                have hparts : M.parts (tk, ta, tb) = [ta] := by unfold M.parts; rw [if_pos t1]
                obtain ⟨pI, p0, p1⟩ := M.win_parts HA.out hm0 WN.out hk ta (by rw [hτ, hparts]; simp)
                have hmem := M.rise_take RS.out hk pI p1
                obtain ⟨p, rfl⟩ : ∃ p : Nat, ta = p := ⟨ta.toNat, by omega⟩
                have hpn : p < n := by omega
                have hv := VX.out _ hmem
                rw [Int.toNat_natCast] at hv
                obtain ⟨z, hz⟩ : ∃ z, M.partV (M.ev A T p).2.2.1 (tk - 2) = z := ⟨_, rfl⟩
                have e1 : M.ev A T j = M.ofB z := by rw [hev]; unfold M.stepE; rw [if_neg (by dsimp only; omega), if_neg (by dsimp only; omega)]; dsimp only; rw [Int.toNat_natCast, hz]
                have OT := own_keptq OX.out (below_one (o := .cells #[.int .i64 tk, .int .i64 (p : Int), .int .i64 tb] 45) (Below.refl wr.heap.size wr))
                obtain ⟨_, _, r0, r1, _⟩ := row9_cells OT hpn hv
                have PC := hidq (fun X => rpart_any (M.ev A T p).2.2.1 (tk - 2) X)
                rw [hz] at PC
                generalize M.partE (tk - 2) = er at PC
                have PC : Hid (∀ X, Calls Try.prog 19 #[.agg #[.int .u64 (M.nu (M.ev A T p).2.2.1.1), .int .u64 (M.nu (M.ev A T p).2.2.1.2)], .int .i64 (tk - 2)] X fun e w' => e = .returned (.tuple #[.agg #[.int .u64 (M.nu z.1), .int .u64 (M.nu z.2)], .int .i64 er]) ∧ Below X.heap.size X w') := PC
                obtain ⟨c0, c1, _⟩ := (Bx3.new wr (tk, (p : Int), tb)).cells
                have BW := BZ.out.alloc (Nat.le_of_lt (OX.out.lt _ rfl).2) (.cells #[.int .i64 tk, .int .i64 (p : Int), .int .i64 tb] 45)
                have gt : g < wr.heap.size := (OX.out.lt _ rfl).2
                have gW : g < (wr.alloc (.cells #[.int .i64 tk, .int .i64 (p : Int), .int .i64 tb] 45)).heap.size := by rw [World.size_alloc]; omega
                have tW : wr.heap.size < (wr.alloc (.cells #[.int .i64 tk, .int .i64 (p : Int), .int .i64 tb] 45)).heap.size := by rw [World.size_alloc]; omega
                have n1 : (tk == 1) = false := by rw [beq_eq_false_iff_ne]; omega
                have n5 : (tk == 5) = false := by rw [beq_eq_false_iff_ne]; omega
                have tk2 : 2 ≤ tk := by omega
                have tk4 : tk ≤ 4 := by omega
                have pz : (p : Int) < n := by omega
                have j0 : (0 : Int) ≤ j := by omega
                have hjz : (j : Int) < n := by omega
                generalize (M.ev A T p).2.2.1 = b at *
                dsimp only at c0 c1
                clear hev hmay hτ hk I4 t1 hparts pI hmem hv hz
                go_upto_region 26 with fail
                generalize wr.alloc (.cells #[.int .i64 tk, .int .i64 (p : Int), .int .i64 tb] 45) = W at *
                generalize wr.heap.size = Bt at *
                go_cut [20, 21] (fun u v wx => ∃ B, u = .pointer (some ⟨B, 0, none⟩) ∧ v = .int .i64 er ∧ Bx2 wx B z ∧ Below W.heap.size W wx)
                case first =>
                  clear NXT e1 OT OX VX BZ BY BW HOW HB3 HG hgd HE AT U2 K2 XZ2 B2 I2 WC HNI HI WN RS HA RI FI HFit HD XZ U0 K0 B0 x1 x2 x3 ci kc hq hlt hcl hIl hni hnw Hn hn16 hg3 hi hz0 hz1 hz2 hlc hj hjn hm0 hpn gt j0 hjz
                  have hw2 := wrap64 (x := tk - 2) (by omega) (by omega)
                  have PK : Hid (∀ (X : World) (k : Int), k = tk - 2 → Calls Try.prog 19 #[.agg #[.int .u64 (M.nu b.1), .int .u64 (M.nu b.2)], .int .i64 k] X fun e w' => e = .returned (.tuple #[.agg #[.int .u64 (M.nu z.1), .int .u64 (M.nu z.2)], .int .i64 er]) ∧ Below X.heap.size X w') := fun X k hk => by subst hk; exact PC.out X
                  obtain ⟨G, HG, HF, gD⟩ : ∃ G : World → Prop, Hid (∀ X X', G X → Below X.heap.size X X' → G X') ∧ Hid (∀ X, G X → Below W.heap.size W X) ∧ G W.drew := ⟨fun X => Below W.heap.size W X, fun _ _ h k => below_trans h k, fun _ h => h, (Below.refl W.heap.size W).drew⟩
                  have ng3 : W.heap.size ≠ g := Nat.ne_of_gt gW
                  have ng4 : W.heap.size ≠ Bt := Nat.ne_of_gt tW
                  go_region_held3 (fun X => X.cell? ⟨g, p * 9 + 2, none⟩ = some (.int .u64 (M.nu b.1)) ∧ X.cell? ⟨g, p * 9 + 3, none⟩ = some (.int .u64 (M.nu b.2)) ∧ X.cell? ⟨Bt, 0, none⟩ = some (.int .i64 tk) ∧ X.cell? ⟨Bt, 1, none⟩ = some (.int .i64 (p : Int))) (go_keep)
                    (first | (go_at_call 19; refine (PK.out _ _ (by first | exact hw2 | omega)).mono ?_; rintro e w5 ⟨rfl, hb5⟩; have g5 := HG.out _ w5 (by first | exact gD | exact HG.out _ _ gD (below_one (Below.refl _ _))) hb5; have hd := HF.out w5 g5; have hso : W.heap.size ≤ w5.heap.size := hd.size; (first | (have bz := Bx2.below (B := W.heap.size) (b := (0#64, 0#64)) (by exact Bx2.new W.drew (0#64, 0#64)) hb5; obtain ⟨bz0, bz1, bz2, bz3⟩ := bz.facts) | skip); have d0 := (hd.cell (p := ⟨g, p * 9 + 2, none⟩) gW).trans r0; have d1 := (hd.cell (p := ⟨g, p * 9 + 3, none⟩) gW).trans r1; have d2 := (hd.cell (p := ⟨Bt, 0, none⟩) tW).trans c0; have d3 := (hd.cell (p := ⟨Bt, 1, none⟩) tW).trans c1; have ng1 : w5.heap.size ≠ g := Nat.ne_of_gt (Nat.lt_of_lt_of_le gW hso); have ng2 : w5.heap.size ≠ Bt := Nat.ne_of_gt (Nat.lt_of_lt_of_le tW hso); clear hb5))
                  all_goals go_wp2
                  all_goals go_meet
                  all_goals first | exact ⟨_, rfl, rfl, Bx2.new w5 z, below_one hd⟩ | exact ⟨_, rfl, rfl, bz.set z, below_set (below_set hd (Nat.le_refl _) _) (Nat.le_refl _) _⟩
                case rest =>
                  obtain ⟨B, rfl, rfl, hbx, hbw⟩ := hcut
                  obtain ⟨f0, f1, _, _⟩ := hbx.facts
                  obtain ⟨WZ, ys, hst, m1, m2, m3, nb, _⟩ := put9 (own_keptq OT hbw) hjn (M.ofB z) [.bool false, .bool false, .int .u64 (M.nu z.1), .int .u64 (M.nu z.2), .int .u64 0, .int .u64 0, .int .u64 0, .int .u64 0, .int .i64 0] rfl (BW.trans (hbw.mono (by omega))) (Nat.le_refl g)
                  rw [← e1] at m2
                  have NN := hidq (NXT.out _ ys m1 m2 m3)
                  have BN := hidq nb
                  clear m1 m2 m3 OT e1 nb NXT PC r0 r1 c0 c1 hbx hbw
                  go_wp2_with (refine wpList_sto9 g j [.bool false, .bool false, .int .u64 (M.nu z.1), .int .u64 (M.nu z.2), .int .u64 0, .int .u64 0, .int .u64 0, .int .u64 0, .int .i64 0] WZ rfl rfl hst ?_)
                  go_roundw
                  case rel => exact ⟨q + 1, by omega, by go_num, NN.out, BN.out⟩
                  case measure => simp [intOf]; omega
              · dsimp only at t1
                subst t1
                have hparts : M.parts (5, ta, tb) = [ta, tb] := by unfold M.parts; rw [if_neg (by simp), if_pos rfl]
                obtain ⟨pI, p0, p1⟩ := M.win_parts HA.out hm0 WN.out hk ta (by rw [hτ, hparts]; simp)
                obtain ⟨rI, r0', r1'⟩ := M.win_parts HA.out hm0 WN.out hk tb (by rw [hτ, hparts]; simp)
                have hmem := M.rise_take RS.out hk pI p1
                have hmem2 := M.rise_take RS.out hk rI r1'
                obtain ⟨p, rfl⟩ : ∃ p : Nat, ta = p := ⟨ta.toNat, by omega⟩
                obtain ⟨r, rfl⟩ : ∃ r : Nat, tb = r := ⟨tb.toNat, by omega⟩
                have hpj : p < j := by omega
                have hrj : r < j := by omega
                have hpn : p < n := by omega
                have hrn : r < n := by omega
                have hv := VX.out _ hmem
                rw [Int.toNat_natCast] at hv
                have hv2 := VX.out _ hmem2
                rw [Int.toNat_natCast] at hv2
                obtain ⟨z, hz⟩ : ∃ z, M.wrap (M.ev A T p).2.2.1 (M.ev A T r).2.2.1 = z := ⟨_, rfl⟩
                have e1 : M.ev A T j = M.ofS z := by rw [hev]; unfold M.stepE; rw [if_neg (by dsimp only; omega), if_pos rfl]; dsimp only; rw [Int.toNat_natCast, Int.toNat_natCast, hz]
                have OT := own_keptq OX.out (below_one (o := .cells #[.int .i64 5, .int .i64 (p : Int), .int .i64 (r : Int)] 45) (Below.refl wr.heap.size wr))
                obtain ⟨_, _, r0, r1, _⟩ := row9_cells OT hpn hv
                obtain ⟨_, _, s0, s1, _⟩ := row9_cells OT hrn hv2
                have PC := hidq (fun X => rwrap_eq hz X)
                obtain ⟨c0, c1, c2⟩ := (Bx3.new wr (5, (p : Int), (r : Int))).cells
                have BW := hidq (BZ.out.alloc (Nat.le_of_lt (OX.out.lt _ rfl).2) (.cells #[.int .i64 5, .int .i64 (p : Int), .int .i64 (r : Int)] 45))
                have gt : g < wr.heap.size := (OX.out.lt _ rfl).2
                have gW : g < (wr.alloc (.cells #[.int .i64 5, .int .i64 (p : Int), .int .i64 (r : Int)] 45)).heap.size := by rw [World.size_alloc]; omega
                have tW : wr.heap.size < (wr.alloc (.cells #[.int .i64 5, .int .i64 (p : Int), .int .i64 (r : Int)] 45)).heap.size := by rw [World.size_alloc]; omega
                have tg : wr.heap.size ≠ g := by omega
                have pz : (p : Int) < n := by omega
                have rz : (r : Int) < n := by omega
                have j0 : (0 : Int) ≤ j := by omega
                have hjz : (j : Int) < n := by omega
                have OO := hidq (fun X (hb : Below (wr.alloc (.cells #[.int .i64 5, .int .i64 (p : Int), .int .i64 (r : Int)] 45)).heap.size (wr.alloc (.cells #[.int .i64 5, .int .i64 (p : Int), .int .i64 (r : Int)] 45)) X) => own_keptq OT hb)
                have BB := hidq (fun X (hb : Below (wr.alloc (.cells #[.int .i64 5, .int .i64 (p : Int), .int .i64 (r : Int)] 45)).heap.size (wr.alloc (.cells #[.int .i64 5, .int .i64 (p : Int), .int .i64 (r : Int)] 45)) X) => BW.out.trans (hb.mono (Nat.le_of_lt gW)))
                generalize (M.ev A T p).2.2.1 = b at *
                generalize (M.ev A T r).2.2.1 = b' at *
                dsimp only at c0 c1 c2
                rw [e1] at NXT
                clear e1 hev hmay hτ hk I4 hparts pI rI hmem hmem2 hv hv2 hz OT
                go_upto_region 31 with fail
                generalize wr.alloc (.cells #[.int .i64 5, .int .i64 (p : Int), .int .i64 (r : Int)] 45) = W at *
                generalize wr.heap.size = Bt at *
                go_region_law (first | (go_simp; go_at_call 18; refine (PC.out _).mono ?_; rintro e w5 ⟨rfl, hb5⟩; have hd : Below W.heap.size W w5 := below_trans ((Below.refl W.heap.size W).drew) hb5; obtain ⟨u0, u1, u2, u3, u4, u5, u6, u7, u8, ⟨v0, v1, v2, v3, v4, v5, v6, v7, v8⟩, hfz⟩ := row9_there (OO.out w5 hd) hjn; obtain ⟨ys, m1, m2, m3⟩ := row9_set (OO.out w5 hd) hjn (M.ofS z); have NN := hidq (NXT.out _ ys m1 m2 m3); have BN := hidq (BB.out w5 hd); clear hb5 m1 m2 m3 hd r0 r1 s0 s1 c0 c1 c2))
                all_goals go_wp2
                all_goals go_roundw
                all_goals first | exact ⟨q + 1, by omega, by go_num, NN.out, below_set9q BN.out (Nat.le_refl g) _ _ _ _ _ _ _ _ _ _ _ _ _ _ _ _ _ _⟩ | (simp [intOf]; omega)
            · have hmem : (m : Int) ∈ I.take q := by
                rw [List.take_of_length_le (by rw [HNI.out]; omega)]
                exact List.mem_of_getElem? WN.out.2.2.1
              have hv := VX.out _ hmem
              rw [Int.toNat_natCast, HE.out] at hv
              have hmn : m < n := by omega
              obtain ⟨y0, y1, y2, y3, y4, y5, y6, y7, y8⟩ := row9_cells OX.out hmn hv
              have XW := XZ2.out.below BY.out
              obtain ⟨c0, c1, c2, c3, c4, c5, c6, c7, c8⟩ := XW.cells; obtain ⟨f0, f1, f2, f3, f4, f5, f6, f7, f8⟩ := XW.frozen
              have BF := hidq (below_trans B2.out BY.out)
              clear XW hv hmem
              go_wp2
              refine bodyPost_ret (v := .tuple #[.agg #[.bool _, .bool _, .int .u64 _, .int .u64 _, .int .u64 _, .int .u64 _, .int .u64 _, .int .u64 _, .int .i64 _], .int .i64 _]) (by simp [results, go_sem, c0, c1, c2, c3, c4, c5, c6, c7, c8, Try.results6]) rfl ⟨rfl, below_set9 BF.out (by omega) _ _ _ _ _ _ _ _ _⟩
end Go.Proofs.Ythbacijbgjmigaa
