/-
  What the program's madeOf comes to with the closure of Within. Conditions: each theorem's own premises.
-/
import Derived.Test.YthbacijbgjmigaaZU12
namespace Go.Proofs.Ythbacijbgjmigaa
open Go.RowKit
theorem grownq_set (w : World) (g k : Nat) (v : Value) : w.grownBy (w.setCell ⟨g, k, none⟩ v) (some g) :=
  ⟨rfl, rfl, rfl, by simp, fun i hi hr => by
    have : i ≠ g := fun e => hr (by rw [e])
    exact heap_setCell_other w ⟨g, k, none⟩ i v this⟩
set_option maxRecDepth 100000 in
theorem within1_any (f : Nat → Bool) (base D g n p : Nat) (w : World) (hD : w.cell? ⟨D, 0, none⟩ = some (.slice (some ⟨g, 0, none⟩) n n)) (hp : p < n) (_ : n ≤ 65536) (hown : w.ownsRow base 4 1 (.slice (some ⟨g, 0, none⟩) n n) n (elBool.cells (M.rowB f n))) :
    Calls Try.prog 31 #[.int .i64 p, .pointer (some ⟨D, 0, none⟩)] w fun e w' => e = .returned (.tuple #[]) ∧ w'.ownsRow base 4 1 (.slice (some ⟨g, 0, none⟩) n n) n (elBool.cells (M.rowB (fun j => f j || decide (j = p)) n)) ∧ w.grownBy w' (some g) := by
  have c3 := ownB_cell hown (k := p) hp
  have f1 := hown.frozenAt p
  have HST := hidq (ownB_store hown p)
  have hpn : (p : Int) < n := by omega
  clear hown
  go_enter Try.func31, Try.ntmps31
  go_wp2
  go_end0
  exact ⟨rfl, HST.out, grownq_set w g p _⟩
set_option maxRecDepth 100000 in
set_option maxHeartbeats 4000000 in
theorem madeOf_within (f : Nat → Bool) (base D g n k : Nat) (w : World) (xD : Bx1 w D (.slice (some ⟨g, 0, none⟩) n n) 65) (hDg : D ≠ g) (hk : k < n) (hn : n ≤ 65536)
    (hown : w.ownsRow base 4 1 (.slice (some ⟨g, 0, none⟩) n n) n (elBool.cells (M.rowB f n))) (t : M.Tm) (hm : M.mayB t k = true) :
    Calls Try.prog 30 #[.agg #[.int .i64 t.1, .int .i64 t.2.1, .int .i64 t.2.2], (.func (.func 31) #[] #[.pointer (some ⟨D, 0, none⟩)])] w fun e w' => e = .returned (.tuple #[]) ∧ w'.ownsRow base 4 1 (.slice (some ⟨g, 0, none⟩) n n) n (elBool.cells (M.rowB (M.fq f (M.parts t) (M.parts t).length) n)) ∧ w.grownBy w' (some g) := by
  have hgw := (hown.lt g rfl).2
  have hBg : w.heap.size ≠ g := by omega
  have T1 := hidq trivial
  have O0 := hidq (hown.alloc (.cells #[.int .i64 t.1, .int .i64 t.2.1, .int .i64 t.2.2] 45))
  have XD := hidq (xD.alloc (.cells #[.int .i64 t.1, .int .i64 t.2.1, .int .i64 t.2.2] 45))
  have X0 := hidq (Bx3.new w t)
  have cD := XD.out.cell
  clear hown xD
  rcases M.may_kind hm with ⟨k1, k2, k3, k4⟩ | ⟨k1, k2, k3, k4⟩ | ⟨k1, k2, k3, k4, k5⟩
  · have e : M.parts t = [] := by unfold M.parts; simp [k1]
    rw [e, List.length_nil, M.fq_zero]
    clear hm e
    obtain ⟨tk, ta, tb⟩ := t
    dsimp only at *
    subst k1
    subst k4
    go_enter Try.func30, Try.ntmps30
    go_wp2
    refine bodyPost_ret (v := .tuple #[]) (by simp [results, Try.results30, go_sem]) rfl ⟨rfl, O0.out, World.grownBy_alloc _ _ _⟩
  · obtain ⟨a, ha⟩ : ∃ a : Nat, t.2.1 = a := ⟨t.2.1.toNat, by omega⟩
    have e : M.parts t = [(a : Int)] := by
      unfold M.parts
      rcases k1 with k1 | k1 | k1 <;> simp [k1, ha]
    have e2 : M.fq f [(a : Int)] 1 = fun j => f j || decide (j = a) := by
      rw [← M.fq_succ f [(a : Int)] 0 a rfl, M.fq_zero]
    rw [e, List.length_singleton, e2]
    have hak : a < k := by omega
    clear hm e e2
    obtain ⟨tk, ta, tb⟩ := t
    dsimp only at *
    subst ha
    subst k4
    rcases k1 with rfl | rfl | rfl
    all_goals go_enter Try.func30, Try.ntmps30
    all_goals go_wp2_with (first | (go_at_call 31; clear T1; refine (within1_any f base D g n a _ cD (by omega) hn O0.out).mono ?_; rintro r w1 ⟨rfl, ho1, hg1⟩; have O1 := hidq ho1; have XD1 := hidq (XD.out.grown hg1 hDg); have cD1 := XD1.out.cell; have X1 := hidq (X0.out.grown hg1 hBg); have c1 := X1.out.cells; have G1 := hidq hg1; clear ho1 hg1))
    all_goals go_end0
    all_goals exact ⟨rfl, O1.out, grownq_alloc G1.out⟩
  · obtain ⟨a, ha⟩ : ∃ a : Nat, t.2.1 = a := ⟨t.2.1.toNat, by omega⟩
    obtain ⟨b, hb⟩ : ∃ b : Nat, t.2.2 = b := ⟨t.2.2.toNat, by omega⟩
    have e : M.parts t = [(a : Int), (b : Int)] := by
      unfold M.parts
      simp [k1, ha, hb]
    have e2 : M.fq f [(a : Int), (b : Int)] 2 = fun j => (f j || decide (j = a)) || decide (j = b) := by
      rw [← M.fq_succ f [(a : Int), (b : Int)] 1 b rfl, ← M.fq_succ f [(a : Int), (b : Int)] 0 a rfl, M.fq_zero]
    rw [e, show [(a : Int), (b : Int)].length = 2 from rfl, e2]
    have hak : a < k := by omega
    have hbk : b < k := by omega
    clear hm e e2
    obtain ⟨tk, ta, tb⟩ := t
    dsimp only at *
    subst k1
    subst ha
    subst hb
    go_enter Try.func30, Try.ntmps30
    go_wp2_with (first | (go_at_call 31; clear T1; refine (within1_any f base D g n a _ cD (by omega) hn O0.out).mono ?_; rintro r w1 ⟨rfl, ho1, hg1⟩; have O1 := hidq ho1; have XD1 := hidq (XD.out.grown hg1 hDg); have cD1 := XD1.out.cell; have X1 := hidq (X0.out.grown hg1 hBg); have c1 := X1.out.cells; have G1 := hidq hg1; clear ho1 hg1) | (go_at_call 31; refine (within1_any _ base D g n b _ cD1 (by omega) hn O1.out).mono ?_; rintro r w2 ⟨rfl, ho2, hg2⟩; have O2 := hidq ho2; have G2 := hidq (grownq_trans G1.out hg2); clear ho2 hg2))
    go_end0
    exact ⟨rfl, O2.out, grownq_alloc G2.out⟩
end Go.Proofs.Ythbacijbgjmigaa
