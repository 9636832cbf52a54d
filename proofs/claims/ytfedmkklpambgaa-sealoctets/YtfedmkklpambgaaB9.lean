/-
  What the document's own answers number and Of come to. Condition: the slice holds octets.
-/
import Derived.Test.YtfedmkklpambgaaB8
namespace Go.Proofs.Ytfedmkklpambgaa
open Go.RowKit
theorem Bs.cells {W : World} {ao : Option Addr} {n cap : Nat} {L : List Int} (h : Bs W (.slice ao n cap) L) (h0 : 0 < L.length) : ∃ b off, ao = some ⟨b, off, none⟩ ∧ b < W.heap.size ∧ ∀ j, j < L.length → W.cell? ⟨b, off + j, none⟩ = some (.int .u8 (M.fillF L j)) := by
  obtain ⟨ao', cap', e, q1, q2, q3, q4⟩ := h
  simp only [Value.slice.injEq] at e
  obtain ⟨rfl, _, rfl⟩ := e
  exact q4 (by omega)
set_option maxHeartbeats 1000000 in
theorem number_any (f : Nat → Int) (b off cap : Nat) (w : World) (hf : ∀ j, j < 8 → 0 ≤ f j ∧ f j ≤ 255) (hc : ∀ j, j < 8 → w.cell? ⟨b, off + j, none⟩ = some (.int .u8 (f j))) :
    Calls Try.prog 33 #[.slice (some ⟨b, off, none⟩) 8 cap] w fun e w' => e = .returned (.int .u64 (M.num f 0)) ∧ w' = w := by
  have HC := hid' hc
  have HF := hid' hf
  clear hc hf
  go_enter Try.func33, Try.ntmps33
  go_wp2
  go_loop [3, 4] (fun x i => ∃ r : Nat, r ≤ 8 ∧ x = .int .u64 (M.hiK f r) ∧ i = .int .i64 (7 - (r : Int))) (fun _ i => (intOf i + 1).toNat)
  case atStart => exact ⟨0, by omega, rfl, rfl⟩
  case round =>
    obtain ⟨r, hr, rfl, rfl⟩ := hrel
    by_cases hlt : r < 8
    · obtain ⟨j, hj⟩ : ∃ j : Nat, r + j = 7 := ⟨7 - r, by omega⟩
      have e1 : (7 : Int) - r = j := by omega
      have hcell := HC.out j (by omega)
      obtain ⟨b1, b2⟩ := M.hiK_bd HF.out r (by omega)
      obtain ⟨b3, b4⟩ := HF.out j (by omega)
      have HX : Hid (256 * M.hiK f r + f j = M.hiK f (r + 1)) := by
        show _ = _
        rw [M.hiK, show 7 - r = j by omega]
      have HJ : Hid (r + j = 7) := hj
      have hj8 : j < 8 := by omega
      rw [e1]
      generalize M.hiK f r = x at *
      clear HC HF hj e1
      go_wp2
      go_round
      case rel => exact ⟨r + 1, by omega, by rw [← HX.out], by have := HJ.out; go_num⟩
      case measure => simp [intOf]
    · obtain rfl : r = 8 := by omega
      have e8 := M.hiK_8 f
      rw [e8]
      go_wp2
      go_ret
      exact ⟨rfl, rfl⟩
theorem num_shift (f : Nat → Int) : M.num (fun j => f (8 + j)) 0 = M.num f 8 := rfl
theorem nu_ofOct {f : Nat → Int} (h : M.Oct f) : M.nu (M.ofOct f).1 = M.num f 0 ∧ M.nu (M.ofOct f).2 = M.num f 8 := by
  obtain ⟨a, b⟩ := M.num_bd (oct_lo h)
  obtain ⟨c, d⟩ := M.num_bd (oct_hi h)
  exact ⟨M.nu_of _ a b, M.nu_of _ c d⟩
/-- the two calls, by what lies there -/
theorem number_lo {f : Nat → Int} (h : M.Oct f) (b off cap : Nat) (w : World) (hc : ∀ j, j < 16 → w.cell? ⟨b, off + j, none⟩ = some (.int .u8 (f j))) :
    Calls Try.prog 33 #[.slice (some ⟨b, off, none⟩) 8 cap] w fun e w' => e = .returned (.int .u64 (M.nu (M.ofOct f).1)) ∧ w' = w := by
  rw [(nu_ofOct h).1]; exact number_any f b off cap w (fun j hj => h j (by omega)) (fun j hj => hc j (by omega))
theorem number_hi {f : Nat → Int} (h : M.Oct f) (b off cap : Nat) (w : World) (hc : ∀ j, j < 16 → w.cell? ⟨b, off + j, none⟩ = some (.int .u8 (f j))) :
    Calls Try.prog 33 #[.slice (some ⟨b, off + 8, none⟩) 8 cap] w fun e w' => e = .returned (.int .u64 (M.nu (M.ofOct f).2)) ∧ w' = w := by
  rw [(nu_ofOct h).2, ← num_shift]; exact number_any (fun j => f (8 + j)) b (off + 8) cap w (fun j hj => h _ (by omega)) (fun j hj => by rw [Nat.add_assoc]; exact hc _ (by omega))
set_option maxHeartbeats 2000000 in
theorem rof_any (L : List Int) (v : Value) (w : World) (hu : Bs w v L) :
    Calls Try.prog 24 #[v] w fun e w' => e = .returned (.tuple #[blkV (M.ofV L), .int .i64 (M.ofE L)]) ∧ Below w.heap.size w w' := by
  have hU := hu
  obtain ⟨ao, cap, rfl, q1, q2, q3, q4⟩ := hu
  unfold blkV
  by_cases h16 : L.length = 16
  · have hv : M.ofV L = M.ofOct (M.fillF L) := if_pos h16
    have he : M.ofE L = 0 := if_pos h16
    rw [hv, he]
    obtain ⟨b, off, rfl, hb, hc⟩ := (hU.alloc (.cells #[.int .u64 (M.nu 0#64), .int .u64 (M.nu 0#64)] 24)).cells (by omega)
    have hz := Bx2.new w (0#64, 0#64)
    obtain ⟨gc0, gc1, gf0, gf1⟩ := hz.facts
    have HO := hid' (fillF_oct q3)
    have HC : Hid (∀ j, j < 16 → (w.alloc (.cells #[.int .u64 (M.nu 0#64), .int .u64 (M.nu 0#64)] 24)).cell? ⟨b, off + j, none⟩ = some (.int .u8 (M.fillF L j))) := fun j hj => hc j (by omega)
    have HZ := hid' hz
    have hB := below_one (Below.refl _ w) (o := .cells #[.int .u64 (M.nu 0#64), .int .u64 (M.nu 0#64)] 24)
    rw [h16] at q1
    have hcap8 : ¬ cap = 8 := by omega
    rw [h16]
    clear hv he hz q4 q3 hU hc h16
    go_enter Try.func24, Try.ntmps24
    go_wp2
    have h0 : M.nu 0#64 = 0 := rfl
    rw [h0] at gc0 gc1 gf0 gf1 HC HZ hB
    generalize w.alloc (.cells #[.int .u64 0, .int .u64 0] 24) = W1 at *
    go_region_with (first | (go_at_call_of 33 (Value.slice (some ⟨b, off, none⟩) 8 cap); refine (number_lo HO.out _ _ _ _ (by exact HC.out)).mono ?_; rintro e w1 ⟨rfl, hw1⟩; subst w1) | (go_at_call 33; refine (number_hi HO.out _ _ _ _ (by exact HC.out)).mono ?_; rintro e w1 ⟨rfl, hw1⟩; subst w1))
    all_goals go_wp2
    all_goals refine bodyPost_ret (v := .tuple #[.agg #[.int .u64 _, .int .u64 _], .int .i64 0]) (by simp [results, Try.results24, go_sem, gc0, gc1]) rfl ⟨rfl, by (repeat' (first | exact hB | exact Below.refl _ _ | with_reducible refine below_set ?_ (by simp; try omega) _ | with_reducible refine below_one ?_ | with_reducible refine below_dr ?_ _ | with_reducible refine below_d1 ?_))⟩
  · have hv : M.ofV L = (0#64, 0#64) := if_neg h16
    have he : M.ofE L = 2 := if_neg h16
    have h16i : ¬ (L.length : Int) = 16 := by omega
    rw [hv, he]
    clear hv he q4 q3
    go_enter Try.func24, Try.ntmps24
    go_wp2
    refine bodyPost_ret (v := .tuple #[.agg #[.int .u64 0, .int .u64 0], .int .i64 2]) (by simp [results, Try.results24, go_sem]) rfl ⟨rfl, ?_⟩
    exact below_one (Below.refl _ _)
end Go.Proofs.Ytfedmkklpambgaa
