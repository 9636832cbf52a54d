/-
  What the document's own Fold comes to at every input. Condition: the slice holds octets.
-/
import Derived.Test.YtfedmkklpambgaaNP
import Derived.Test.YtfedmkklpambgaaB10
namespace Go.Proofs.Ytfedmkklpambgaa
open Go.RowKit
def lenOfV : Value → Nat
  | .slice _ n _ => n
  | _ => 0
theorem ofOct_congr {f g : Nat → Int} (h : ∀ j, j < 16 → f j = g j) : M.ofOct f = M.ofOct g := by
  unfold M.ofOct M.num
  simp only [Nat.zero_add, Nat.reduceAdd]
  rw [h 0 (by decide), h 1 (by decide), h 2 (by decide), h 3 (by decide), h 4 (by decide), h 5 (by decide), h 6 (by decide), h 7 (by decide), h 8 (by decide), h 9 (by decide), h 10 (by decide), h 11 (by decide), h 12 (by decide), h 13 (by decide), h 14 (by decide), h 15 (by decide)]
theorem ofOct_take (P : List Int) : M.ofOct (M.fillF (P.take 16)) = M.ofOct (M.fillF P) := ofOct_congr fun j hj => by
  unfold M.fillF; rw [List.getElem?_take, if_pos hj]
theorem make16 (W : World) : (Instr.makeSlice 27 (.int .i64 16) (.int .i64 16)).run Try.prog W = .ok (.slice (some ⟨W.heap.size, 0, none⟩) 16 16) (W.alloc (.cells (octC fun _ => 0) 5)) := by
  obtain ⟨i0, hi, hz0, hz1, hz2⟩ := info_parts Try.infoU8
  have h := run_makeSlice (P := Try.prog) W 27 5 i0 (.int .u8 0) Try.underlying27 hi hz0 .i64 .i64 16 16 (by decide) (by decide) (by rw [hz1]; decide) (by rw [hz2]; decide) (by decide)
  rw [hz1] at h
  rw [h]
  have e : madeCells (Value.int .u8 0).cells 16 = octC fun _ => 0 := by
    apply Array.ext_getElem?
    intro i
    by_cases hi : i < 16
    · rw [octC_get _ i hi]
      simp [madeCells, Value.cells, hi, Nat.mod_one]
    · rw [Array.getElem?_eq_none (by rw [size_madeCells]; omega), Array.getElem?_eq_none (by rw [octC_size]; omega)]
  show Result.ok (Value.slice _ 16 16) (W.alloc (.cells (madeCells (Value.int .u8 0).cells 16) _)) = _
  rw [e]
/-- what is left of a slice of octets behind the first E of them -/
theorem Bs.rest {W : World} {b off cap n E : Nat} {L : List Int} (h : Bs W (.slice (some ⟨b, off, none⟩) n cap) L) (hE : E ≤ n) (h0 : 0 < E) : (¬ cap = E → Bs W (.slice (some ⟨b, off + E, none⟩) (n - E) (cap - E)) (L.drop E)) ∧ (cap = E → Bs W (.slice (some ⟨b, off, none⟩) (n - E) (cap - E)) (L.drop E)) := by
  obtain ⟨ao, cap', e, q1, q2, q3, q4⟩ := h
  simp only [Value.slice.injEq] at e
  obtain ⟨rfl, rfl, rfl⟩ := e
  obtain ⟨b', off', e, q5, q6⟩ := q4 (by omega)
  cases e
  have hlen : (L.drop E).length = L.length - E := by simp
  constructor
  · intro hc
    refine ⟨_, _, by rw [hlen], by omega, by omega, fun x hx => q3 x (List.mem_of_mem_drop hx), fun _ => ⟨b, off + E, rfl, q5, fun j hj => ?_⟩⟩
    rw [Nat.add_assoc, q6 (E + j) (by omega), List.getElem?_drop]
  · intro hc
    refine ⟨_, _, by rw [hlen], by omega, by omega, fun x hx => q3 x (List.mem_of_mem_drop hx), fun h => ?_⟩
    omega
set_option maxRecDepth 100000 in
set_option maxHeartbeats 4000000 in
theorem rfold_yes (c : M.Blk) (L : List Int) (v : Value) (w : World) (hu : Bs w v L) (hL : L.length ≤ 65536) :
    Calls Try.prog 28 #[blkV c, v] w fun e w' => e = .returned (.tuple #[blkV (M.fold c L), .int .i64 0]) ∧ Below w.heap.size w w' := by
  have hu0 := hu
  obtain ⟨ao, cap, rfl, q1, q2, q3, q4⟩ := hu0
  have HU := hid' hu
  have HN : Hid (M.pcs L = (L.length + 15) / 16) := rfl
  have HF : Hid (M.fold c L = M.foldN c L (M.pcs L)) := rfl
  have HS : Hid (∀ k, M.foldN c L (k + 1) = M.mix (M.xor (M.foldN c L k) (M.ofOct (M.fillF (L.drop (16 * k)))))) := fun k => by
    rw [← ofOct_take]; rfl
  clear q3 q4 hu
  unfold blkV
  go_enter Try.func28, Try.ntmps28
  go_wp2
  go_loopw [1] (fun t wr => ∃ k : Nat, k ≤ M.pcs L ∧ Bs w t (L.drop (16 * k)) ∧ Bx2 wr w.heap.size (M.foldN c L k) ∧ Bx2 wr (w.heap.size + 1) (0#64, 0#64) ∧ Below w.heap.size w wr) (fun t _ => lenOfV t)
  case atStart =>
    obtain ⟨hx, hz, hB⟩ := box2 w c _ rfl
    exact ⟨0, by omega, HU.out, hx, hz, hB⟩
  case round =>
    obtain ⟨k, hk, hv, hx, hz, hB⟩ := hrel
    have hv0 := hv
    obtain ⟨ao2, cap2, rfl, p1, p2, p3, p4⟩ := hv0
    have hPl : (L.drop (16 * k)).length = L.length - 16 * k := by simp
    by_cases hlt : k < M.pcs L
    · have hpos : 0 < L.length - 16 * k := by have := HN.out; omega
      obtain ⟨b, off, rfl, hbl, _⟩ := p4 (by omega)
      clear p4
      have HD : Hid ((L.drop (16 * k)).drop (min 16 (L.length - 16 * k)) = L.drop (16 * (k + 1))) := by
        show _ = _
        rw [List.drop_drop]
        by_cases h16 : 16 ≤ L.length - 16 * k
        · rw [show 16 * k + min 16 (L.length - 16 * k) = 16 * (k + 1) by omega]
        · rw [List.drop_eq_nil_of_le (by omega), List.drop_eq_nil_of_le (by omega)]
      have HK := hid' (HS.out k)
      have HO := hid' (fillF_oct p3)
      clear p3 HS
      generalize hP : L.drop (16 * k) = P at *
      have hg : (wr.alloc (.cells (octC fun _ => 0) 5)).heap[wr.heap.size]? = some (.cells (octC fun _ => 0) 5 (0, 0)) := by
        show (wr.heap.push _)[wr.heap.size]? = _
        simp
      obtain ⟨W2, hr, hg2, hb2⟩ := run_copy_fill _ wr.heap.size cap2 5 3 (some ⟨b, off, none⟩) P ((hv.below hB).alloc (.cells (octC fun _ => 0) 5)) hg
      have hB2 : Below wr.heap.size wr W2 := (below_one (Below.refl _ _)).trans hb2
      have xW2 := hx.below hB2
      have zW2 := hz.below hB2
      have vW2 := hv
      have HC : Hid (∀ j, j < 16 → W2.cell? ⟨wr.heap.size, 0 + j, none⟩ = some (.int .u8 (M.fillF P j))) := fun j hj => by
        have := octC_get (M.fillF P) j hj
        simp [World.cell?, hg2, this]
      have HB := hid' (below_trans hB hB2)
      obtain ⟨c0W2, c1W2, f0W2, f1W2⟩ := xW2.facts
      have mk := make16
      rw [hPl] at hr vW2 p1 ⊢
      have hE0 : 0 < min 16 (L.length - 16 * k) := by omega
      have hE1 : min 16 (L.length - 16 * k) ≤ L.length - 16 * k := by omega
      obtain ⟨r1, r2⟩ := vW2.rest hE1 hE0
      have H1 := hid' r1
      have H2 := hid' r2
      have HM : Hid (L.length - 16 * k - min 16 (L.length - 16 * k) < L.length - 16 * k) := by show _ < _; omega
      have HL : Hid (k + 1 ≤ M.pcs L) := hlt
      clear r1 r2 hx hz hv hg hg2 hb2 hB2 vW2 hPl HN HF HU hP
      generalize L.length - 16 * k = n at *
      generalize min 16 n = E at *
      have hEi : ((E : Int)).toNat = E := by omega
      by_cases hcE : cap2 = E
      · subst hcE
        have HR : Hid (Bs w (.slice (some ⟨b, off, none⟩) 0 0) (L.drop (16 * (k + 1)))) := by
          have h := H2.out rfl
          rw [HD.out, show n - cap2 = 0 by omega, Nat.sub_self] at h
          exact h
        clear H1 H2
        go_wp2
        have HG := hid' HC.out
        generalize hG : wr.heap.size = G at *
        go_region_with (first | (go_at_call_of 33 (Value.slice (some ⟨G, 0, none⟩) 8 16); refine (number_lo HO.out G 0 _ _ (by exact HC.out)).mono ?_; rintro e w1 ⟨rfl, hw1⟩; subst w1) | (go_at_call 33; refine (number_hi HO.out G 0 _ _ (by exact HC.out)).mono ?_; rintro e w1 ⟨rfl, hw1⟩; subst w1) | (go_at_call 22; refine (rxor_at (M.foldN c L k) (M.ofOct (M.fillF P)) _).mono ?_; rintro e wc ⟨rfl, hb⟩; have xwc := Bx2.below (B := w.heap.size) (b := M.foldN c L k) (by exact xW2) hb; have zwc := Bx2.below (B := w.heap.size + 1) (b := (0#64, 0#64)) (by exact zW2) hb; have bwc : Below W2.heap.size W2 wc := below_trans (w1 := W2) (Below.refl _ W2) ⟨hb.os, hb.tape, hb.output, hb.size, hb.block⟩; clear hb; obtain ⟨c0wc, c1wc, f0wc, f1wc⟩ := xwc.facts) | (go_at_call 30; refine (rmix_at (M.xor (M.foldN c L k) (M.ofOct (M.fillF P))) _).mono ?_; rintro e wd ⟨rfl, hb⟩; have xwd := Bx2.below (B := w.heap.size) (b := M.foldN c L k) (by exact xwc) hb; have zwd := Bx2.below (B := w.heap.size + 1) (b := (0#64, 0#64)) (by exact zwc) hb; have bwd : Below W2.heap.size W2 wd := below_trans (w1 := wc) bwc ⟨hb.os, hb.tape, hb.output, hb.size, hb.block⟩; clear hb; obtain ⟨c0wd, c1wd, f0wd, f1wd⟩ := xwd.facts))
        all_goals
          go_wp2
          go_roundw
          case rel => exact ⟨k + 1, HL.out, HR.out, by rw [HK.out]; exact xwd.set _, (zwd.other (by simp) _).other (by simp) _, below_set2 (below_trans HB.out bwd) (Nat.le_refl _) _ _⟩
          case measure => have := HM.out; simp [lenOfV]; omega
      · have HR : Hid (Bs w (.slice (some ⟨b, off + E, none⟩) (n - E) (cap2 - E)) (L.drop (16 * (k + 1)))) := by
          have h := H1.out hcE
          rw [HD.out] at h
          exact h
        clear H1 H2
        go_wp2
        have HG := hid' HC.out
        generalize hG : wr.heap.size = G at *
        go_region_with (first | (go_at_call_of 33 (Value.slice (some ⟨G, 0, none⟩) 8 16); refine (number_lo HO.out G 0 _ _ (by exact HC.out)).mono ?_; rintro e w1 ⟨rfl, hw1⟩; subst w1) | (go_at_call 33; refine (number_hi HO.out G 0 _ _ (by exact HC.out)).mono ?_; rintro e w1 ⟨rfl, hw1⟩; subst w1) | (go_at_call 22; refine (rxor_at (M.foldN c L k) (M.ofOct (M.fillF P)) _).mono ?_; rintro e wc ⟨rfl, hb⟩; have xwc := Bx2.below (B := w.heap.size) (b := M.foldN c L k) (by exact xW2) hb; have zwc := Bx2.below (B := w.heap.size + 1) (b := (0#64, 0#64)) (by exact zW2) hb; have bwc : Below W2.heap.size W2 wc := below_trans (w1 := W2) (Below.refl _ W2) ⟨hb.os, hb.tape, hb.output, hb.size, hb.block⟩; clear hb; obtain ⟨c0wc, c1wc, f0wc, f1wc⟩ := xwc.facts) | (go_at_call 30; refine (rmix_at (M.xor (M.foldN c L k) (M.ofOct (M.fillF P))) _).mono ?_; rintro e wd ⟨rfl, hb⟩; have xwd := Bx2.below (B := w.heap.size) (b := M.foldN c L k) (by exact xwc) hb; have zwd := Bx2.below (B := w.heap.size + 1) (b := (0#64, 0#64)) (by exact zwc) hb; have bwd : Below W2.heap.size W2 wd := below_trans (w1 := wc) bwc ⟨hb.os, hb.tape, hb.output, hb.size, hb.block⟩; clear hb; obtain ⟨c0wd, c1wd, f0wd, f1wd⟩ := xwd.facts))
        all_goals
          go_wp2
          go_roundw
          case rel => exact ⟨k + 1, HL.out, HR.out, by rw [HK.out]; exact xwd.set _, (zwd.other (by simp) _).other (by simp) _, below_set2 (below_trans HB.out bwd) (Nat.le_refl _) _ _⟩
          case measure => have := HM.out; simp [lenOfV]; omega
    · have hk2 : k = M.pcs L := by omega
      have hl0 : L.length - 16 * k = 0 := by have := HN.out; omega
      rw [hk2, ← HF.out] at hx
      obtain ⟨hc0, hc1, hf0, hf1⟩ := hx.facts
      obtain ⟨zc0, zc1, zf0, zf1⟩ := hz.facts
      rw [hPl, hl0]
      clear hPl hl0 HS HU HN HF p4 p3 hv hk2 hx p1 hlt hk
      go_wp2
      refine bodyPost_ret (v := .tuple #[.agg #[.int .u64 _, .int .u64 _], .int .i64 0]) (by simp [results, Try.results28, go_sem, zc0, zc1]) rfl ⟨rfl, below_set2 hB (by omega) _ _⟩
end Go.Proofs.Ytfedmkklpambgaa
