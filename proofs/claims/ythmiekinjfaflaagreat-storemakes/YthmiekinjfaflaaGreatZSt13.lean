/-
  Entries as an argument reads them; that terms which a store leaves behind may be; an owned row of terms whose kinds are counted up. Conditions: each theorem's own premises.
-/
import Derived.Test.YthmiekinjfaflaaGreatZE1
import Derived.Test.YthmiekinjfaflaaGreatZNZ
import Derived.Test.YthmiekinjfaflaaGreatZSt12
import Derived.ProofKit
import Derived.OpenShut
import Derived.Deep.MidRow
namespace Go.Proofs.YthmiekinjfaflaaGreat
open Go.ChangeShapes Go.WideShapes Go.ChangeAt Go.RowKit
namespace M
theorem stp_okL {A : List Tm} {h k : Int} {m : Val} {s : Int × Int} : Ok (stpA A h k m s).2.1 := by
  obtain ⟨⟨x, L, n⟩, hx⟩ : ∃ r, stpA A h k m s = r := ⟨_, rfl⟩
  rw [hx]
  unfold stpA at hx
  split at hx
  · exact key_okL hx
  · exact lab_okL hx
theorem mkR_okL {h k : Int} {m : Val} : ∀ (S : List (Int × Int)) {A : List Tm}, Ok A → Ok (mkR h k m S A).2.1
  | [], A, hA => hA
  | s :: S, A, hA => by
    rw [mkR]
    split
    · split
      · exact mkR_okL S stp_okL
      · exact ok_nil
    · exact ok_nil
theorem mak_okL {A L : List Tm} {h k i : Int} {m : Val} {E : List En} {n : Int} (hx : makA A h k m i = (E, L, n)) : Ok L := by
  unfold makA at hx
  split at hx
  · rename_i hc
    simp only [Bool.and_eq_true] at hc
    have := mkR_okL (h := h) (k := k) (m := m) (prsL h k i) (opn_iff.1 hc.2).1
    rwa [hx] at this
  · simp only [Prod.mk.injEq] at hx
    rw [← hx.2.1]
    exact ok_nil
end M
set_option maxRecDepth 100000 in
theorem val_of_cells14 {H : Type} {enc : TypeId × Value → H} {W : World} (n : Nat) (cs : List Value) (y : DataW H × List MemPlace) (hl : cs.length = 9)
    (hf : DataW.trod enc Tryz.prog W 0 (fun _ => true) true n 29 cs = some y) : ∃ x : M.Val, cs = [.bool x.1, .bool x.2.1, .int .u64 (M.nu x.2.2.1.1), .int .u64 (M.nu x.2.2.1.2), .int .u64 (M.nu x.2.2.2.1.1.1), .int .u64 (M.nu x.2.2.2.1.1.2), .int .u64 (M.nu x.2.2.2.1.2.1), .int .u64 (M.nu x.2.2.2.1.2.2), .int .i64 x.2.2.2.2] := by
  match cs, hl with
  | [a, b, c, d, e, f, g, i, j], _ =>
    have hst : Tryz.prog.underlying 29 = some (.struct #[⟨"Sym", 4, 0, false, "", "", 0⟩, ⟨"Sealed", 4, 1, false, "", "", 1⟩, ⟨"B", 25, 2, false, "", "", 8⟩, ⟨"S", 27, 4, false, "", "", 24⟩, ⟨"T", 3, 8, false, "", "", 56⟩]) := by rw [← Tryz.fieldsV]; exact Tryz.structV
    obtain ⟨y0, y1, y2, y3, y4, n, h0, h1, h2, h3, h4⟩ := trod_struct5 hst hf
    dsimp only at h0 h1 h2 h3 h4
    rw [Tryz.cellsBool] at h0 h1
    rw [Tryz.cellsBlk] at h2
    rw [Tryz.cellsSea] at h3
    rw [Tryz.cellsInt] at h4
    obtain ⟨s, hs, _⟩ := DataW.trod_bool Tryz.underlying4 h0
    obtain ⟨l, hl, _⟩ := DataW.trod_bool Tryz.underlying4 h1
    obtain ⟨bb, e1, e2⟩ := blk_of_cells h2
    obtain ⟨z0, z1, m, _, _, k0, k1⟩ := trod_struct2 Tryz.underlying27 h3
    rw [Tryz.cellsBlk] at k0 k1
    obtain ⟨q1, e3, e4⟩ := blk_of_cells k0
    obtain ⟨q2, e5, e6⟩ := blk_of_cells k1
    obtain ⟨t, ht, _, wt⟩ := DataW.trod_int Tryz.underlying3 h4
    have ea : a = .bool s := by simpa [Value.cells] using hs
    have eb : b = .bool l := by simpa [Value.cells] using hl
    have ej : j = .int .i64 t := by simpa [Value.cells] using ht
    refine ⟨(s, l, bb, (q1, q2), t), ?_⟩
    rw [ea, eb, e1, e2, e3, e4, e5, e6, ej]
set_option maxRecDepth 100000 in
theorem Tryz.cellsEnt : Tryz.prog.cellsOf 57 = 11 := by kernel_rfl
set_option maxRecDepth 100000 in
theorem en_of_cells {H : Type} {enc : TypeId × Value → H} {W : World} (n : Nat) (cs : List Value) (y : DataW H × List MemPlace) (hl : cs.length = 11)
    (hf : DataW.trod enc Tryz.prog W 0 (fun _ => true) true n 57 cs = some y) : ∃ x : M.En, cs = elEnt.enc x ∧ elEnt.ok x := by
  match cs, hl with
  | [u, v, a, b, c, d, e, f, g, i, j], _ =>
    obtain ⟨z0, z1, m, _, _, k0, k1⟩ := trod_struct2 Tryz.underlying57 hf
    rw [Tryz.cellsSub] at k0
    rw [Tryz.cellsVal] at k1
    obtain ⟨x, e1, e2⟩ := sub_of_cells m [u, v] _ rfl k0
    obtain ⟨w, e3⟩ := val_of_cells14 m [a, b, c, d, e, f, g, i, j] _ rfl k1
    refine ⟨(x, w), ?_, e2.1.1, e2.1.2, e2.2⟩
    show u :: v :: [a, b, c, d, e, f, g, i, j] = _
    rw [e3]
    simp only [List.cons.injEq, and_true] at e1
    rw [e1.1, e1.2]
    rfl
set_option maxRecDepth 100000 in
theorem es_of_trod {H : Type} {enc : TypeId × Value → H} {W : World} {v : Value} {d : DataW H} {p : List MemPlace} {base : Nat} (hok : Value.okWide Tryz.prog W .any base 30 v)
    (h : DataW.Trod enc Tryz.prog W 0 (fun _ => true) true 30 v d p) (hlt : ∀ x ∈ p, x.block < W.heap.size) : ∃ L, Es W v L :=
  sl_of_trod (E := elEnt) Tryz.cellsEnt (fun n cs y hl hy => by
    obtain ⟨x, e1, e2⟩ := en_of_cells n cs y hl hy
    exact ⟨x, e1, e2⟩) hok h hlt
def OwnQ14 (B : Nat) (v : Value) (L : List M.Tm) (W : World) : Prop := W.ownsRow B 39 3 v L.length (elTm.cells L)
theorem OwnQ14.below {B : Nat} {v : Value} {L : List M.Tm} {W W' : World} (h : OwnQ14 B v L W) (hb : Below W.heap.size W W') : OwnQ14 B v L W' := own_keptq h hb
def BelQ14 (W0 W : World) : Prop := Below W0.heap.size W0 W
theorem BelQ14.below {W0 W W' : World} (h : BelQ14 W0 W) (hb : Below W.heap.size W W') : BelQ14 W0 W' := below_trans h hb
theorem elTm_set14 : ∀ (X : List M.Tm) (k : Nat) (z : Int), (elTm.cells X).set (k * 3) (.int .i64 z) = elTm.cells (X.set k (z, (M.at_ X k).2))
  | [], k, z => rfl
  | x :: X, 0, z => rfl
  | x :: X, k + 1, z => by
    have ih := elTm_set14 X k z
    have e1 : ∀ (y : M.Tm) (Y : List M.Tm), elTm.cells (y :: Y) = .int .i64 y.1 :: .int .i64 y.2.1 :: .int .i64 y.2.2 :: elTm.cells Y := fun _ _ => rfl
    rw [e1, show (k + 1) * 3 = k * 3 + 1 + 1 + 1 by omega, List.set_cons_succ, List.set_cons_succ, List.set_cons_succ, ih, List.set_cons_succ, e1]
    rfl
set_option maxRecDepth 100000 in
theorem own_tm14 {w : World} {base g n cap : Nat} {X : List M.Tm} (h : w.ownsRow base 39 3 (.slice (some ⟨g, 0, none⟩) n cap) n (elTm.cells X)) (hX : X.length = n) {k : Nat} (hk : k < n) : w.cell? ⟨g, k * 3, none⟩ = some (.int .i64 (M.at_ X k).1) := by
  rw [h.cellAt (k * 3) (by omega)]
  have hk' : k < X.length := by omega
  exact elTm.cells_get X k 0 _ (show X[k]? = some (M.at_ X k) by unfold M.at_; rw [List.getElem?_eq_getElem hk']; rfl) (by decide)
set_option maxRecDepth 100000 in
theorem own_tm_set14 {w : World} {base g n cap : Nat} {X : List M.Tm} (h : w.ownsRow base 39 3 (.slice (some ⟨g, 0, none⟩) n cap) n (elTm.cells X)) (k : Nat) (z : Int) : (w.setCell ⟨g, k * 3, none⟩ (.int .i64 z)).ownsRow base 39 3 (.slice (some ⟨g, 0, none⟩) n cap) n (elTm.cells (X.set k (z, (M.at_ X k).2))) := by
  have := (h.stored (k * 3) (.int .i64 z)).1
  rwa [elTm_set14] at this
end Go.Proofs.YthmiekinjfaflaaGreat
namespace Go.Proofs.YthmiekinjfaflaaGreat
open Go.RowKit
def setL : List Value → Nat → List Value → List Value
  | xs, _, [] => xs
  | xs, o, v :: L => setL (xs.set o v) (o + 1) L
theorem setL_append (P : List Value) : ∀ (L Q : List Value) (j : Nat), setL (P ++ Q) (P.length + j) L = P ++ setL Q j L
  | [], Q, j => rfl
  | v :: L, Q, j => by
    rw [setL, setL, List.set_append_right _ _ (by omega), show P.length + j - P.length = j by omega, show P.length + j + 1 = P.length + (j + 1) by omega]
    exact setL_append P L (Q.set j v) (j + 1)
theorem row_setL {g n cap base z : Nat} {e : TypeId} : ∀ (L : List Value) {W : World} {xs : List Value} (o : Nat), W.ownsRow base e z (.slice (some ⟨g, 0, none⟩) n cap) n xs → (W.setCells g o L).ownsRow base e z (.slice (some ⟨g, 0, none⟩) n cap) n (setL xs o L)
  | [], W, xs, o, h => h
  | v :: L, W, xs, o, h => by
    rw [World.setCells, setL]
    exact row_setL L (o + 1) (h.stored o v).1
theorem below_setL {B : Nat} {a : World} {g : Nat} (hg : B ≤ g) : ∀ (L : List Value) (o : Nat) (W : World), Below B a W → Below B a (W.setCells g o L)
  | [], _, _, h => h
  | v :: L, o, W, h => by rw [World.setCells]; exact below_setL hg L (o + 1) _ (h.setCell hg v)
theorem heap_setL {g k : Nat} (hk : k ≠ g) : ∀ (L : List Value) (o : Nat) (W : World), (W.setCells g o L).heap[k]? = W.heap[k]?
  | [], _, _ => rfl
  | v :: L, o, W => by rw [World.setCells, heap_setL hk L (o + 1)]; exact Below.heap_setCell W _ v k hk
theorem run_setL {W : World} {base g n cap z : Nat} {e : TypeId} {xs : List Value} (h : W.ownsRow base e z (.slice (some ⟨g, 0, none⟩) n cap) n xs) (ty : TypeId) (o : Nat) (L : List Value) (hl : o + L.length ≤ n * z) (hi : (Tryz.prog.info? ty).map (·.size) = some L.length) (h1 : ∀ v ∈ L, v.oneCell' = true) :
    (Instr.storeAt ty (.pointer (some ⟨g, o, none⟩)) (.agg L.toArray)).run Tryz.prog W = .ok () (W.setCells g o L) := by
  have ht : W.there g o L.toArray.size := by
    intro c hc
    rw [List.size_toArray] at hc
    refine ⟨?_, h.frozenAt _⟩
    rw [h.cellAt (o + c) (by omega)]
    have := h.1
    rw [List.getElem?_eq_getElem (by omega)]; rfl
  have hst := run_storeAt_mid (P := Tryz.prog) W g o ty L.toArray ht (by rw [List.size_toArray]; exact hi) (all_oneCell_toArray h1)
  rwa [List.toList_toArray] at hst
theorem wp_stoE {op : Oper} {a : Act} {w : World} {K : Act → World → Prop} {Q : Exit → Act → World → Prop} {ty : TypeId} {x y : Operand} (ho : op.op = .store ty x y) (g o : Nat) (L : List Value) (WZ : World) (hx : a.eval x = .pointer (some ⟨g, o, none⟩)) (hy : a.eval y = .agg L.toArray)
    (hst : (Instr.storeAt ty (.pointer (some ⟨g, o, none⟩)) (.agg L.toArray)).run Tryz.prog w = .ok () WZ) (h : K (a.put op.dst undef) WZ) : op.wp Tryz.prog a w K Q := by
  unfold Oper.wp execOp
  simp only [ho, hx, hy, Sem.run_bind, Sem.run_pure, hst, Result.andThen_ok]
  exact h
theorem wpList_stoE {ops : Array Oper} {rest : List Oper} {a : Act} {w : World} {Q : Exit → Act → World → Prop} {dst : Option Tmp} {ty tt : TypeId} {x y : Operand} {pos : String} {af : Array Edge} (g o : Nat) (L : List Value) (WZ : World) (hx : a.eval x = .pointer (some ⟨g, o, none⟩)) (hy : a.eval y = .agg L.toArray)
    (hst : (Instr.storeAt ty (.pointer (some ⟨g, o, none⟩)) (.agg L.toArray)).run Tryz.prog w = .ok () WZ) (h : wpList Tryz.prog ops Q rest (a.put dst undef) WZ) : wpList Tryz.prog ops Q ({ dst := dst, op := .store ty x y, type := tt, pos := pos, after := af, guard := none } :: rest) a w :=
  wpList_plain rfl fun _ hK => wp_stoE rfl g o L WZ hx hy hst (hK _ _ h)
set_option maxRecDepth 100000 in
theorem infoV9 : (Tryz.prog.info? 29).map (·.size) = some 9 := by kernel_rfl
set_option maxRecDepth 100000 in
theorem infoS2 : (Tryz.prog.info? 46).map (·.size) = some 2 := by kernel_rfl
set_option maxRecDepth 100000 in
theorem Tryz.infoEnt : (Tryz.prog.info? 57).map (fun i => (i.zero, i.size, i.bytes)) = some (some (.agg #[.int .u64 0, .int .u64 0, .bool false, .bool false, .int .u64 0, .int .u64 0, .int .u64 0, .int .u64 0, .int .u64 0, .int .u64 0, .int .i64 0]), 11, 80) := by kernel_rfl
abbrev valL (x : M.Val) : List Value := [.bool x.1, .bool x.2.1, .int .u64 (M.nu x.2.2.1.1), .int .u64 (M.nu x.2.2.1.2), .int .u64 (M.nu x.2.2.2.1.1.1), .int .u64 (M.nu x.2.2.2.1.1.2), .int .u64 (M.nu x.2.2.2.1.2.1), .int .u64 (M.nu x.2.2.2.1.2.2), .int .i64 x.2.2.2.2]
theorem valL_one (x : M.Val) : ∀ v ∈ valL x, v.oneCell' = true := by
  intro v hv
  simp [valL] at hv
  rcases hv with rfl | rfl | rfl | rfl | rfl | rfl | rfl | rfl | rfl <;> rfl
theorem elEnt_V (A R : List M.En) (s : Int × Int) (u x : M.Val) (n : Nat) (hn : A.length = n) : setL (elEnt.cells (A ++ (s, u) :: R)) (n * 11 + 2) (valL x) = elEnt.cells (A ++ (s, x) :: R) := by
  have hl : (elEnt.cells A).length = n * 11 := by rw [elEnt.cells_length A, hn]; rfl
  rw [elEnt.cells_append, elEnt.cells_append, ← hl, setL_append]
  rfl
theorem elEnt_S (A R : List M.En) (s t : Int × Int) (u : M.Val) (n : Nat) (hn : A.length = n) : setL (elEnt.cells (A ++ (t, u) :: R)) (n * 11) [.int .u64 s.1, .int .u64 s.2] = elEnt.cells (A ++ (s, u) :: R) := by
  have hl : (elEnt.cells A).length = n * 11 := by rw [elEnt.cells_length A, hn]; rfl
  rw [elEnt.cells_append, elEnt.cells_append, ← hl, ← Nat.add_zero (elEnt.cells A).length, setL_append]
  rfl
theorem elEnt_T (A R : List M.En) (s : Int × Int) (u : M.Val) (t : Int) (n : Nat) (hn : A.length = n) : setL (elEnt.cells (A ++ (s, u) :: R)) (n * 11 + 10) [.int .i64 t] = elEnt.cells (A ++ (s, (u.1, u.2.1, u.2.2.1, u.2.2.2.1, t)) :: R) := by
  have hl : (elEnt.cells A).length = n * 11 := by rw [elEnt.cells_length A, hn]; rfl
  rw [elEnt.cells_append, elEnt.cells_append, ← hl, setL_append]
  rfl
theorem elEnt_zeros (n : Nat) : (madeCells #[Value.int .u64 0, .int .u64 0, .bool false, .bool false, .int .u64 0, .int .u64 0, .int .u64 0, .int .u64 0, .int .u64 0, .int .u64 0, .int .i64 0] (n * 11)).toList = elEnt.cells (List.replicate n M.zE) := by
  have hl : (elEnt.cells (List.replicate n M.zE)).length = n * 11 := by rw [elEnt.cells_length]; simp; rfl
  refine List.ext_getElem? fun j => ?_
  by_cases h : j < n * 11
  · have h1 := elEnt.cells_get (List.replicate n M.zE) (j / 11) (j % 11) M.zE (by rw [List.getElem?_replicate, if_pos (by omega)]) (by show j % 11 < 11; omega)
    rw [show j / 11 * elEnt.size + j % 11 = j by show j / 11 * 11 + j % 11 = j; omega] at h1
    rw [h1]
    have h2 : j % 11 = 0 ∨ j % 11 = 1 ∨ j % 11 = 2 ∨ j % 11 = 3 ∨ j % 11 = 4 ∨ j % 11 = 5 ∨ j % 11 = 6 ∨ j % 11 = 7 ∨ j % 11 = 8 ∨ j % 11 = 9 ∨ j % 11 = 10 := by omega
    rcases h2 with h2 | h2 | h2 | h2 | h2 | h2 | h2 | h2 | h2 | h2 | h2 <;> simp [madeCells, h, h2, elEnt, M.zE, M.zV, M.nu]
  · rw [List.getElem?_eq_none (l := elEnt.cells _) (by rw [hl]; omega), List.getElem?_eq_none (by simp [madeCells]; omega)]
end Go.Proofs.YthmiekinjfaflaaGreat
