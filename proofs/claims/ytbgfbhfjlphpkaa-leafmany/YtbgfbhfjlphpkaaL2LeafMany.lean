/-
  The law LeafMany returns true at every input. Conditions: the numbers fit their kinds.
-/
import Derived.Test.YtbgfbhfjlphpkaaK2
namespace Go.Proofs.Ytbgfbhfjlphpkaa
open Go.RowKit
theorem M.tmod_bd (a : Int) {b : Int} (hb : 0 < b) : -b < a.tmod b ∧ a.tmod b < b := by
  refine ⟨?_, Int.tmod_lt_of_pos a hb⟩
  by_cases h : 0 ≤ a
  · have := Int.tmod_nonneg b h; omega
  · have h1 := Int.tmod_lt_of_pos (-a) hb
    rw [Int.neg_tmod] at h1
    omega
set_option maxRecDepth 100000 in
set_option maxHeartbeats 1000000 in
theorem leafMany_walk (h : Int) (S : List (Int × Int)) (v : Value) (cut : Int) (w : World) (hu : Ps w v S) :
    Calls Try.prog 8 #[.int .i64 h, v, .int .i64 cut] w fun e w' => e = .returned (.bool true) ∧ Below w.heap.size w w' := by
  have hu' := hu
  obtain ⟨ao, cap, rfl, hq1, hq2, hq3, hq4⟩ := hu'
  have hm : S.length ≤ maxLen := by omega
  unfold maxLen at hm
  generalize hn : S.length = n at *
  have T1 := hid trivial
  have T2 := hid trivial
  have T3 := hid trivial
  have T4 := hid trivial
  by_cases hl : n ≤ 60
  · by_cases hE : M.manyE h S = 0
    · obtain ⟨r, hr⟩ : ∃ r, cut.tmod ((n : Int) + 1) = r := ⟨_, rfl⟩
      have hrb := M.tmod_bd cut (b := (n : Int) + 1) (by omega)
      rw [hr] at hrb
      obtain ⟨rb1, rb2⟩ := hrb
      obtain ⟨c, hc, hcn⟩ : ∃ c : Nat, (r + n + 1).tmod ((n : Int) + 1) = c ∧ c ≤ n := by
        have h1 := Int.tmod_nonneg ((n : Int) + 1) (show 0 ≤ r + n + 1 by omega)
        have h2 := Int.tmod_lt_of_pos (r + n + 1) (show 0 < (n : Int) + 1 by omega)
        exact ⟨((r + n + 1).tmod ((n : Int) + 1)).toNat, by omega, by omega⟩
      obtain ⟨f1, f2, f3, f4, f5, f6, f7, f8, f9⟩ := M.many_facts hE c
      have f3' : (M.manyV h (S.take c) + M.manyV h (S.drop c) != M.manyV h S) = false := by rw [bne_eq_false_iff_eq]; exact f3
      rw [hn] at f6
      by_cases hn0 : n = 0
      · subst hn0
        have hS : S = [] := List.eq_nil_of_length_eq_zero hn
        have g9 := f9 hS
        have z1 : M.manyV h [] = 0 := by rw [← hS]; exact g9
        have z2 : M.manyE h [] = 0 := by rw [← hS]; exact hE
        obtain rfl : c = 0 := by omega
        by_cases c0 : cap = 0
        · subst c0
          have HA : Hid (Ps w (.slice ao 0 0) (S.take 0)) := by rw [List.take_zero]; exact Ps.empty
          have HC : Hid (Ps w (.slice ao 0 0) (S.drop 0)) := by rw [List.drop_zero, hS]; exact Ps.empty
          clear hq3 hq4 f8 f9 hS
          cases ao with
          | none =>
            go_enter Try.func8, Try.ntmps8
            go_wp2_with (first | (go_at_call 9; refine (live2_any _).mono ?_; rintro e w1 ⟨rfl, hb1⟩; have hu1 := hu.below hb1) | (go_at_call 23; clear T1; refine (many_any h S _ _ hu1).mono ?_; rintro e w2 ⟨rfl, hb2⟩; have hu2 := hu1.below hb2; have ha2 := HA.out.below (below_trans hb1 hb2)) | (go_at_call 23; clear T2; refine (many_any h _ _ _ ha2).mono ?_; rintro e w3 ⟨rfl, hb3⟩; have hu3 := hu2.below hb3; have hc3 := HC.out.below (below_trans (below_trans hb1 hb2) hb3)) | (go_at_call 23; clear T3; refine (many_any h _ _ _ hc3).mono ?_; rintro e w4 ⟨rfl, hb4⟩; have hu4 := hu3.below hb4))
            go_ret
            exact ⟨rfl, below_trans (below_trans (below_trans hb1 hb2) hb3) hb4⟩
          | some a =>
            go_enter Try.func8, Try.ntmps8
            go_wp2_with (first | (go_at_call 9; refine (live2_any _).mono ?_; rintro e w1 ⟨rfl, hb1⟩; have hu1 := hu.below hb1) | (go_at_call 23; clear T1; refine (many_any h S _ _ hu1).mono ?_; rintro e w2 ⟨rfl, hb2⟩; have hu2 := hu1.below hb2; have ha2 := HA.out.below (below_trans hb1 hb2)) | (go_at_call 23; clear T2; refine (many_any h _ _ _ ha2).mono ?_; rintro e w3 ⟨rfl, hb3⟩; have hu3 := hu2.below hb3; have hc3 := HC.out.below (below_trans (below_trans hb1 hb2) hb3)) | (go_at_call 23; clear T3; refine (many_any h _ _ _ hc3).mono ?_; rintro e w4 ⟨rfl, hb4⟩; have hu4 := hu3.below hb4))
            go_ret
            exact ⟨rfl, below_trans (below_trans (below_trans hb1 hb2) hb3) hb4⟩
        · obtain ⟨b, off, rfl, hq5, hq6⟩ := hq4 (by omega)
          have HA : Hid (Ps w (.slice (some ⟨b, off, none⟩) 0 cap) (S.take 0)) := by
            rw [List.take_zero, ← hS]; exact hu
          have HC : Hid (Ps w (.slice (some ⟨b, off, none⟩) 0 cap) (S.drop 0)) := by
            rw [List.drop_zero]; exact hu
          clear hq3 hq4 f8 f9 hS hq6
          go_enter Try.func8, Try.ntmps8
          go_wp2_with (first | (go_at_call 9; refine (live2_any _).mono ?_; rintro e w1 ⟨rfl, hb1⟩; have hu1 := hu.below hb1) | (go_at_call 23; clear T1; refine (many_any h S _ _ hu1).mono ?_; rintro e w2 ⟨rfl, hb2⟩; have hu2 := hu1.below hb2; have ha2 := HA.out.below (below_trans hb1 hb2)) | (go_at_call 23; clear T2; refine (many_any h _ _ _ ha2).mono ?_; rintro e w3 ⟨rfl, hb3⟩; have hu3 := hu2.below hb3; have hc3 := HC.out.below (below_trans (below_trans hb1 hb2) hb3)) | (go_at_call 23; clear T3; refine (many_any h _ _ _ hc3).mono ?_; rintro e w4 ⟨rfl, hb4⟩; have hu4 := hu3.below hb4))
          go_ret
          exact ⟨rfl, below_trans (below_trans (below_trans hb1 hb2) hb3) hb4⟩
      · have g8 := f8 (fun e => hn0 (by rw [← hn, e]; rfl))
        obtain ⟨b, off, rfl, hq5, hq6⟩ := hq4 (by omega)
        have c0 : ¬ cap = 0 := by omega
        have HA : Hid (Ps w (.slice (some ⟨b, off, none⟩) c cap) (S.take c)) := by
          have := Ps.part hu 0 c (by omega) hcn (fun e => c0 e)
          show Ps _ _ _
          simpa using this
        obtain ⟨hS0a, hS0b⟩ := hq6 0 (by omega)
        have HS1 := hid (span_mem hq3 0 (by omega))
        have HF8 : Hid (∀ x ∈ [] ++ S ++ [S[0]?.getD (0, 0)], 0 ≤ x.1 ∧ x.1 ≤ 18446744073709551615 ∧ 0 ≤ x.2 ∧ x.2 ≤ 18446744073709551615) := by
          intro x hx
          rw [List.nil_append, List.mem_append, List.mem_singleton] at hx
          rcases hx with hx | rfl
          · exact hq3 x hx
          · exact HS1.out
        obtain ⟨i0, hi, hz0, hz1, hz2⟩ := info_parts Try.infoSpan
        rw [show off + 0 * 2 = off by omega] at hS0a hS0b
        generalize S[0]?.getD (0, 0) = xy at *
        obtain ⟨x0, y0⟩ := xy
        have hn1 : 0 < n := by omega
        have g8' : M.manyE h ([] ++ S ++ [(x0, y0)]) = 1 := g8
        by_cases c1 : cap = c
        · have c3 : n = c := by omega
          have HC : Hid (Ps w (.slice (some ⟨b, off, none⟩) 0 0) (S.drop c)) := by
            rw [List.drop_of_length_le (by omega)]; exact Ps.empty
          clear hq3 hq4 hq6 f8 f9
          subst c1
          subst c3
          go_enter Try.func8, Try.ntmps8
          go_wp2_with (first | (go_at_call 9; refine (live2_any _).mono ?_; rintro e w1 ⟨rfl, hb1⟩; have hu1 := hu.below hb1) | (go_at_call 23; clear T1; refine (many_any h S _ _ hu1).mono ?_; rintro e w2 ⟨rfl, hb2⟩; have hu2 := hu1.below hb2; have ha2 := HA.out.below (below_trans hb1 hb2)) | (go_at_call 23; clear T2; refine (many_any h _ _ _ ha2).mono ?_; rintro e w3 ⟨rfl, hb3⟩; have hu3 := hu2.below hb3; have hc3 := HC.out.below (below_trans (below_trans hb1 hb2) hb3)) | (go_at_call 23; clear T3; refine (many_any h _ _ _ hc3).mono ?_; rintro e w4 ⟨rfl, hb4⟩; have hu4 := hu3.below hb4))
          have hb04 := below_trans (below_trans (below_trans hb1 hb2) hb3) hb4
          have hx4 := (hb04.cell (p := ⟨b, off, none⟩) hq5).trans hS0a
          have hy4 := (hb04.cell (p := ⟨b, off + 1, none⟩) hq5).trans hS0b
          have hb4' := hid (Nat.lt_of_lt_of_le hq5 hb04.size)
          go_region_law (first | (clear T4; refine step_append_ps rfl _ _ 33 rfl w4.heap.size 41 i0 Try.underlying33 hi hz0 hz1 hz2 _ _ [] rfl (World.ownsRow_nil _ _ _ _) _ S rfl (by first | exact hu4.drew | exact (hu4.alloc _).drew) (by omega) (by simp) ?_; intro v7 w7 hown7 hgrow7; have hb7 : Below w4.heap.size w4 w7 := (by first | exact (Below.refl _ w4).drew.grown hgrow7 (Nat.le_refl _) (fun q hq => by cases hq) | exact (((Below.refl _ w4).alloc (Nat.le_refl _) _).drew).grown hgrow7 (by simp) (fun q hq => by cases hq)); have hx7 := (hb7.cell (p := ⟨b, off, none⟩) hb4'.out).trans hx4; have hy7 := (hb7.cell (p := ⟨b, off + 1, none⟩) hb4'.out).trans hy4; have hg7 := below_grown hgrow7 rfl) | (refine step_append_ps rfl _ _ 33 rfl w4.heap.size 41 i0 Try.underlying33 hi hz0 hz1 hz2 _ _ ([] ++ S) rfl (by first | exact hown7 | exact hown7.alloc _) _ [(x0, y0)] rfl (by first | exact Ps.one _ _ _ _ HS1.out | exact ((Ps.one _ _ _ _ HS1.out).drew).below hg7) (by simp only [List.length_cons, List.length_nil]; omega) (by have := hb7.size; first | omega | (simp; omega)) ?_; intro v8 w8 hown8 hgrow8; have hb8 : Below w4.heap.size w4 w8 := (by first | exact hb7.grown hgrow8 hb7.size (fun q hq => (hown7.lt q hq).1) | exact (hb7.alloc hb7.size _).grown hgrow8 (by have := hb7.size; simp; omega) (fun q hq => (hown7.lt q hq).1)); have hs8 := Ps.of_own hown8 HF8.out; clear hown8 hown7 hg7) | (go_simp; go_at_call 23; refine (many_any h _ _ _ hs8).mono ?_; rintro e w9 ⟨rfl, hb9⟩))
          all_goals (clear hgrow7 hgrow8 hx7 hy7 hs8; go_wp2; go_ret; exact ⟨rfl, below_trans hb04 (below_trans hb8 hb9)⟩)
        · have HC : Hid (Ps w (.slice (some ⟨b, off + c * 2, none⟩) (n - c) (cap - c)) (S.drop c)) := by
            have := Ps.part hu c n hcn (Nat.le_refl _) c1
            rw [List.take_of_length_le (by simp; omega)] at this
            exact this
          clear hq3 hq4 hq6 f8 f9
          go_enter Try.func8, Try.ntmps8
          go_wp2_with (first | (go_at_call 9; refine (live2_any _).mono ?_; rintro e w1 ⟨rfl, hb1⟩; have hu1 := hu.below hb1) | (go_at_call 23; clear T1; refine (many_any h S _ _ hu1).mono ?_; rintro e w2 ⟨rfl, hb2⟩; have hu2 := hu1.below hb2; have ha2 := HA.out.below (below_trans hb1 hb2)) | (go_at_call 23; clear T2; refine (many_any h _ _ _ ha2).mono ?_; rintro e w3 ⟨rfl, hb3⟩; have hu3 := hu2.below hb3; have hc3 := HC.out.below (below_trans (below_trans hb1 hb2) hb3)) | (go_at_call 23; clear T3; refine (many_any h _ _ _ hc3).mono ?_; rintro e w4 ⟨rfl, hb4⟩; have hu4 := hu3.below hb4))
          have hb04 := below_trans (below_trans (below_trans hb1 hb2) hb3) hb4
          have hx4 := (hb04.cell (p := ⟨b, off, none⟩) hq5).trans hS0a
          have hy4 := (hb04.cell (p := ⟨b, off + 1, none⟩) hq5).trans hS0b
          have hb4' := hid (Nat.lt_of_lt_of_le hq5 hb04.size)
          go_region_law (first | (clear T4; refine step_append_ps rfl _ _ 33 rfl w4.heap.size 41 i0 Try.underlying33 hi hz0 hz1 hz2 _ _ [] rfl (World.ownsRow_nil _ _ _ _) _ S rfl (by first | exact hu4.drew | exact (hu4.alloc _).drew) (by omega) (by simp) ?_; intro v7 w7 hown7 hgrow7; have hb7 : Below w4.heap.size w4 w7 := (by first | exact (Below.refl _ w4).drew.grown hgrow7 (Nat.le_refl _) (fun q hq => by cases hq) | exact (((Below.refl _ w4).alloc (Nat.le_refl _) _).drew).grown hgrow7 (by simp) (fun q hq => by cases hq)); have hx7 := (hb7.cell (p := ⟨b, off, none⟩) hb4'.out).trans hx4; have hy7 := (hb7.cell (p := ⟨b, off + 1, none⟩) hb4'.out).trans hy4; have hg7 := below_grown hgrow7 rfl) | (refine step_append_ps rfl _ _ 33 rfl w4.heap.size 41 i0 Try.underlying33 hi hz0 hz1 hz2 _ _ ([] ++ S) rfl (by first | exact hown7 | exact hown7.alloc _) _ [(x0, y0)] rfl (by first | exact Ps.one _ _ _ _ HS1.out | exact ((Ps.one _ _ _ _ HS1.out).drew).below hg7) (by simp only [List.length_cons, List.length_nil]; omega) (by have := hb7.size; first | omega | (simp; omega)) ?_; intro v8 w8 hown8 hgrow8; have hb8 : Below w4.heap.size w4 w8 := (by first | exact hb7.grown hgrow8 hb7.size (fun q hq => (hown7.lt q hq).1) | exact (hb7.alloc hb7.size _).grown hgrow8 (by have := hb7.size; simp; omega) (fun q hq => (hown7.lt q hq).1)); have hs8 := Ps.of_own hown8 HF8.out; clear hown8 hown7 hg7) | (go_simp; go_at_call 23; refine (many_any h _ _ _ hs8).mono ?_; rintro e w9 ⟨rfl, hb9⟩))
          all_goals (clear hgrow7 hgrow8 hx7 hy7 hs8; go_wp2; go_ret; exact ⟨rfl, below_trans hb04 (below_trans hb8 hb9)⟩)
    · have g1 : (M.manyE h S != 0) = true := by rw [bne_iff_ne]; exact hE
      have g2 : M.manyV h S = 0 := by
        refine (M.manyE_no ?_).2
        cases hx : M.manyB h S
        · rfl
        · exact absurd (M.manyE_mk hx).1 hE
      clear hq3 hq4
      go_enter Try.func8, Try.ntmps8
      go_wp2_with (first | (go_at_call 9; refine (live2_any _).mono ?_; rintro e w1 ⟨rfl, hb1⟩; have hu1 := hu.below hb1) | (go_at_call 23; refine (many_any h S _ _ hu1).mono ?_; rintro e w2 ⟨rfl, hb2⟩))
      go_ret
      exact ⟨rfl, below_trans hb1 hb2⟩
  · clear hq3 hq4
    go_enter Try.func8, Try.ntmps8
    go_wp2_with (first | (go_at_call 9; refine (live2_any _).mono ?_; rintro e w1 ⟨rfl, hb1⟩; have hu1 := hu.below hb1))
    go_ret
    exact ⟨rfl, hb1⟩
end Go.Proofs.Ytbgfbhfjlphpkaa
