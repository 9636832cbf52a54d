/-
  What the program's madeOf comes to with the closures of Deep. Conditions: each theorem's own premises.
-/
import Derived.Test.YtkggcfkjmmijbaaDoorU12
namespace Go.Proofs.YtkggcfkjmmijbaaDoor
open Go.RowKit
set_option maxRecDepth 100000 in
set_option maxHeartbeats 4000000 in
theorem madeOf_deep (A : List M.Tm) (hA : M.Ok A) (base D K g n k : Nat) (w : World) (xD : Bx1 w D (.slice (some ⟨g, 0, none⟩) n n) 37) (xK : Bx1 w K (.int .i64 k) 3) (hDg : D ≠ g) (hKg : K ≠ g) (hk : k < n) (hn : n ≤ A.length)
    (hown : w.ownsRow base 3 1 (.slice (some ⟨g, 0, none⟩) n n) n (elInt.cells (M.rowD A k n 0))) (t : M.Tm) (ht : M.at_ A k = t) :
    Calls Tryd.prog 36 #[.agg #[.int .i64 t.1, .int .i64 t.2.1, .int .i64 t.2.2], (.func (.func 37) #[] #[.pointer (some ⟨D, 0, none⟩), .pointer (some ⟨K, 0, none⟩)])] w fun e w' => e = .returned (.tuple #[]) ∧ w'.ownsRow base 3 1 (.slice (some ⟨g, 0, none⟩) n n) n (elInt.cells (M.rowD A k n (M.stepD (M.deepV A) t))) ∧ w.grownBy w' (some g) := by
  have hgw := (hown.lt g rfl).2
  have hBg : w.heap.size ≠ g := by omega
  have hm := (hA.2 k (by omega)).1
  rw [ht] at hm
  have HA := hidq hA
  have hl := hA.1
  have T1 := hidq trivial
  have hd := fun p (hp : p < k) => M.deepV_bd hA (p + 1) p (by omega) (by omega)
  have HD := hidq hd
  have O0 := hidq (hown.alloc (.cells #[.int .i64 t.1, .int .i64 t.2.1, .int .i64 t.2.2] 24))
  have XD := hidq (xD.alloc (.cells #[.int .i64 t.1, .int .i64 t.2.1, .int .i64 t.2.2] 24))
  have XK := hidq (xK.alloc (.cells #[.int .i64 t.1, .int .i64 t.2.1, .int .i64 t.2.2] 24))
  have X0 := hidq (Bx3.new w t)
  have cD := XD.out.cell
  have cK := XK.out.cell
  clear hown xD xK hA hd
  rcases M.may_kind hm with ⟨k1, k2, k3, k4⟩ | ⟨k1, k2, k3, k4⟩ | ⟨k1, k2, k3, k4, k5⟩
  · have e : M.stepD (M.deepV A) t = 0 := by unfold M.stepD M.parts; simp [k1]
    rw [e]
    clear hm e
    obtain ⟨tk, ta, tb⟩ := t
    dsimp only at *
    subst k1
    subst k4
    go_enter Tryd.func36, Tryd.ntmps36
    go_wp2
    refine bodyPost_ret (v := .tuple #[]) (by simp [results, Tryd.results36, go_sem]) rfl ⟨rfl, O0.out, World.grownBy_alloc _ _ _⟩
  · obtain ⟨a, ha⟩ : ∃ a : Nat, t.2.1 = a := ⟨t.2.1.toNat, by omega⟩
    have e : M.stepD (M.deepV A) t = max 0 (M.deepV A a + 1) := by
      unfold M.stepD M.parts
      rcases k1 with k1 | k1 | k1 <;> simp [k1, ha]
    rw [e]
    have hak : a < k := by omega
    clear hm e
    obtain ⟨tk, ta, tb⟩ := t
    dsimp only at *
    subst ha
    subst k4
    rcases k1 with rfl | rfl | rfl
    all_goals go_enter Tryd.func36, Tryd.ntmps36
    all_goals go_wp2_with (first | (go_at_call 37; clear T1; refine (deep1_any A HA.out base D K g n k a 0 _ cD cK hak hk hn (by omega) (by omega) O0.out).mono ?_; rintro r w1 ⟨rfl, ho1, hg1⟩; have O1 := hidq ho1; have XD1 := hidq (XD.out.grown hg1 hDg); have XK1 := hidq (XK.out.grown hg1 hKg); have cD1 := XD1.out.cell; have cK1 := XK1.out.cell; have X1 := hidq (X0.out.grown hg1 hBg); have c1 := X1.out.cells; have G1 := hidq hg1; clear ho1 hg1))
    all_goals go_end0
    all_goals exact ⟨rfl, O1.out, grownq_alloc G1.out⟩
  · obtain ⟨a, ha⟩ : ∃ a : Nat, t.2.1 = a := ⟨t.2.1.toNat, by omega⟩
    obtain ⟨b, hb⟩ : ∃ b : Nat, t.2.2 = b := ⟨t.2.2.toNat, by omega⟩
    have e : M.stepD (M.deepV A) t = max (max 0 (M.deepV A a + 1)) (M.deepV A b + 1) := by
      unfold M.stepD M.parts
      simp [k1, ha, hb]
    rw [e]
    have hak : a < k := by omega
    have hbk : b < k := by omega
    have F0 := hidq (show 0 ≤ max 0 (M.deepV A a + 1) by omega)
    have F1 := hidq (show max 0 (M.deepV A a + 1) ≤ 65536 by have := HD.out a hak; omega)
    clear hm e
    obtain ⟨tk, ta, tb⟩ := t
    dsimp only at *
    subst k1
    subst ha
    subst hb
    go_enter Tryd.func36, Tryd.ntmps36
    go_wp2_with (first | (go_at_call 37; clear T1; refine (deep1_any A HA.out base D K g n k a 0 _ cD cK hak hk hn (by omega) (by omega) O0.out).mono ?_; rintro r w1 ⟨rfl, ho1, hg1⟩; have O1 := hidq ho1; have XD1 := hidq (XD.out.grown hg1 hDg); have XK1 := hidq (XK.out.grown hg1 hKg); have cD1 := XD1.out.cell; have cK1 := XK1.out.cell; have X1 := hidq (X0.out.grown hg1 hBg); have c1 := X1.out.cells; have G1 := hidq hg1; clear ho1 hg1) | (go_at_call 37; refine (deep1_any A HA.out base D K g n k b _ _ cD1 cK1 hbk hk hn F0.out F1.out O1.out).mono ?_; rintro r w2 ⟨rfl, ho2, hg2⟩; have O2 := hidq ho2; have G2 := hidq (grownq_trans G1.out hg2); clear ho2 hg2))
    go_end0
    exact ⟨rfl, O2.out, grownq_alloc G2.out⟩
end Go.Proofs.YtkggcfkjmmijbaaDoor
