/-
  What sub.Touch answers at every input. Conditions: the numbers fit their kinds.
-/
import Derived.Test.YtedilnipfjggfaaZA4
import Derived.Deep.RegionHeld3
namespace Go.Proofs.Ytedilnipfjggfaa
open Go.RowKit
theorem Bi.new1 (W : World) (o : Obj) (t : TypeId) (x y : Int) : Bi ((W.alloc o).alloc (.cells #[.int .u64 x, .int .u64 y] t)) (W.heap.size + 1) t x y := by
  have h := Bi.new (W.alloc o) t x y
  have e : (W.alloc o).heap.size = W.heap.size + 1 := by simp
  rw [e] at h; exact h
theorem M.to_no {h I J K L : Int} (hn : ¬ (M.subB h I J = true ∧ M.subB h K L = true)) : M.toE h I J K L = 1 ∧ M.toV h I J K L = false := by
  unfold M.toE M.toV
  cases hs : M.subB h I J
  · exact ⟨rfl, rfl⟩
  · cases ht : M.subB h K L
    · exact ⟨rfl, rfl⟩
    · exact absurd ⟨hs, ht⟩ hn
theorem M.to_yes {h I J K L : Int} (hs : M.subB h I J = true) (ht : M.subB h K L = true) : M.toE h I J K L = 0 ∧ M.toV h I J K L = M.metB (M.lvs h I J) (M.lvs h K L) := by
  unfold M.toE M.toV; rw [hs, ht]; exact ⟨rfl, rfl⟩
set_option maxRecDepth 100000 in
set_option maxHeartbeats 1000000 in
theorem touch_any (h I J K L : Int) (w : World) (h0 : 0 ≤ I ∧ I ≤ 18446744073709551615) (h1 : 0 ≤ J ∧ J ≤ 18446744073709551615) (h2 : 0 ≤ K ∧ K ≤ 18446744073709551615) (h3 : 0 ≤ L ∧ L ≤ 18446744073709551615) :
    Calls Try.prog 16 #[.int .i64 h, .agg #[.int .u64 I, .int .u64 J], .agg #[.int .u64 K, .int .u64 L]] w fun e w' => e = .returned (.tuple #[.bool (M.toV h I J K L), .int .i64 (M.toE h I J K L)]) ∧ Below w.heap.size w w' := by
  have HA := hidq (fun o => (Below.refl _ w).alloc (Nat.le_refl w.heap.size) o)
  have T1 := hidq trivial
  have T2 := hidq trivial
  have T3 := hidq trivial
  have T4 := hidq trivial
  cases hs : M.subB h I J
  · have E := M.subE_no hs
    obtain ⟨e1, e2⟩ := M.to_no (h := h) (I := I) (J := J) (K := K) (L := L) (by rw [hs]; simp)
    rw [e1, e2]
    clear hs e1 e2
    go_enter Try.func16, Try.ntmps16
    go_wp2_with (first | (go_at_call 30; clear T1; refine (check8_any h I J _ (by omega) (by omega) (by omega) (by omega)).mono ?_; rintro e w1 ⟨rfl, hb1⟩; have X1 := ((Bi.new w 34 I J).alloc (.cells #[.int .u64 K, .int .u64 L] 34)).below hb1; obtain ⟨X1a, X1b⟩ := X1.facts; have Y1 := (Bi.new1 w (.cells #[.int .u64 I, .int .u64 J] 34) 34 K L).below hb1; obtain ⟨Y1a, Y1b⟩ := Y1.facts; have hB1 := below_trans (below_one (HA.out _)) hb1))
    go_ret2
    exact ⟨rfl, hB1⟩
  · have E := M.subE_yes hs
    cases ht : M.subB h K L
    · have E2 := M.subE_no ht
      obtain ⟨e1, e2⟩ := M.to_no (h := h) (I := I) (J := J) (K := K) (L := L) (by rw [ht]; simp)
      rw [e1, e2]
      clear hs ht e1 e2
      go_enter Try.func16, Try.ntmps16
      go_wp2_with (first | (go_at_call 30; clear T1; refine (check8_any h I J _ (by omega) (by omega) (by omega) (by omega)).mono ?_; rintro e w1 ⟨rfl, hb1⟩; have X1 := ((Bi.new w 34 I J).alloc (.cells #[.int .u64 K, .int .u64 L] 34)).below hb1; obtain ⟨X1a, X1b⟩ := X1.facts; have Y1 := (Bi.new1 w (.cells #[.int .u64 I, .int .u64 J] 34) 34 K L).below hb1; obtain ⟨Y1a, Y1b⟩ := Y1.facts; have hB1 := below_trans (below_one (HA.out _)) hb1) | (go_at_call 30; clear T2; refine (check8_any h K L _ (by omega) (by omega) (by omega) (by omega)).mono ?_; rintro e w2 ⟨rfl, hb2⟩; have X2 := X1.below hb2; obtain ⟨X2a, X2b⟩ := X2.facts; have Y2 := Y1.below hb2; obtain ⟨Y2a, Y2b⟩ := Y2.facts; have hB2 := below_trans hB1 hb2))
      go_ret2
      exact ⟨rfl, hB2⟩
    · have E2 := M.subE_yes ht
      obtain ⟨e1, e2⟩ := M.to_yes hs ht
      rw [e1, e2]
      clear e1 e2
      obtain ⟨r, hr⟩ : ∃ r, M.metB (M.lvs h I J) (M.lvs h K L) = r := ⟨_, rfl⟩
      rw [hr]
      go_enter Try.func16, Try.ntmps16
      go_wp2_with (first | (go_at_call 30; clear T1; refine (check8_any h I J _ (by omega) (by omega) (by omega) (by omega)).mono ?_; rintro e w1 ⟨rfl, hb1⟩; have X1 := ((Bi.new w 34 I J).alloc (.cells #[.int .u64 K, .int .u64 L] 34)).below hb1; obtain ⟨X1a, X1b⟩ := X1.facts; have Y1 := (Bi.new1 w (.cells #[.int .u64 I, .int .u64 J] 34) 34 K L).below hb1; obtain ⟨Y1a, Y1b⟩ := Y1.facts; have hB1 := below_trans (below_one (HA.out _)) hb1) | (go_at_call 30; clear T2; refine (check8_any h K L _ (by omega) (by omega) (by omega) (by omega)).mono ?_; rintro e w2 ⟨rfl, hb2⟩; have X2 := X1.below hb2; obtain ⟨X2a, X2b⟩ := X2.facts; have Y2 := Y1.below hb2; obtain ⟨Y2a, Y2b⟩ := Y2.facts; have hB2 := below_trans hB1 hb2))
      go_region_held3 (fun X => X.cell? ⟨w.heap.size, 0, none⟩ = some (.int .u64 I) ∧ X.cell? ⟨w.heap.size, 1, none⟩ = some (.int .u64 J) ∧ X.cell? ⟨w.heap.size + 1, 0, none⟩ = some (.int .u64 K) ∧ X.cell? ⟨w.heap.size + 1, 1, none⟩ = some (.int .u64 L)) (go_keep)
        (first | (go_at_call 33; (clear T3; refine (spansOf_any h I J _ hs h1.1).mono ?_; rintro e w3 ⟨v, rfl, hp3, hb3⟩; obtain ⟨_, _, rfl, _⟩ := hp3.form; have hd : Below w2.heap.size w2 w3 := below_trans ((Below.refl w2.heap.size w2).drew) hb3; have X3 := X2.below hd; obtain ⟨X3a, X3b⟩ := X3.facts; have Y3 := Y2.below hd; obtain ⟨Y3a, Y3b⟩ := Y3.facts; have hB3 := below_trans hB2 hd)) | (go_at_call 33; (clear T4; refine (spansOf_any h K L _ ht h3.1).mono ?_; rintro e w4 ⟨v', rfl, hp4, hb4⟩; obtain ⟨_, _, rfl, _⟩ := hp4.form; have X4 := X3.below hb4; obtain ⟨X4a, X4b⟩ := X4.facts; have Y4 := Y3.below hb4; obtain ⟨Y4a, Y4b⟩ := Y4.facts; have hq4 := hp3.below hb4; have hB4 := below_trans hB3 hb4)) | (go_at_call 34; (refine (meet_any8 _ _ _ _ _ hq4 hp4).mono ?_; rintro e w5 ⟨rfl, hb5⟩; have X5 := X4.below hb5; obtain ⟨X5a, X5b⟩ := X5.facts; have Y5 := Y4.below hb5; obtain ⟨Y5a, Y5b⟩ := Y5.facts; have hB5 := below_trans hB4 hb5)))
      all_goals go_wp2
      all_goals go_ret2
      all_goals exact ⟨rfl, hB5⟩
end Go.Proofs.Ytedilnipfjggfaa
