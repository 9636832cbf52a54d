/-
  The law MixDoes: any block mixed, two exclusive or, any part, and any block's octets, or why not. No condition.
-/
import Derived.Test.YtkigboncelhehaaL3MixOctets
import Derived.Test.YtkigboncelhehaaB16
namespace Go.Proofs.Ytkigboncelhehaa
open Go.RowKit
theorem own_kept8 {w w' : World} {base : Nat} {e : TypeId} {size : Nat} {v : Value} {n : Nat} {xs : List Value} (h : w.ownsRow base e size v n xs) (hb : Below w.heap.size w w') : w'.ownsRow base e size v n xs :=
  h.kept (row := none) ⟨hb.os, hb.tape, hb.output, hb.size, fun k hk _ => hb.block k hk⟩ (by cases hv : v.ownBlock <;> simp)
theorem roctets_at (b : M.Blk) (w : World) :
    Calls Try.prog 19 #[.agg #[.int .u64 (M.nu b.1), .int .u64 (M.nu b.2)]] w fun e w' => ∃ v, e = .returned v ∧ w'.ownsRow w.heap.size 5 1 v 16 (u8s (M.octs b)) ∧ Below w.heap.size w w' := roctets_any b w
set_option maxRecDepth 100000 in
set_option maxHeartbeats 8000000 in
theorem mixDoes_walk (a b : M.Blk) (i : Int) (w : World) :
    Calls Try.prog 3 #[blkV a, blkV b, .int .i64 i] w fun e w' => e = .returned (.bool true) ∧ Below w.heap.size w w' := by
  have hq := eqB
  obtain ⟨Xa0, Xb0, hB0⟩ := box2ab w a b _ rfl
  obtain ⟨p, hp⟩ : ∃ p, M.partV a i = p := ⟨_, rfl⟩
  obtain ⟨n, hn⟩ : ∃ n, M.partE i = n := ⟨_, rfl⟩
  obtain ⟨ma, hma⟩ : ∃ m, M.mix a = m := ⟨_, rfl⟩
  obtain ⟨ab, hab⟩ : ∃ m, M.xor a b = m := ⟨_, rfl⟩
  obtain ⟨st, hst⟩ : ∃ st, M.strOf (M.octs a) = st := ⟨_, rfl⟩
  have P1 := hid' hp
  have P2 := hid' hn
  have M1 := hid' hma
  have M2 := hid' hab
  have HST := hid' hst
  clear hp hn hma hab hst
  unfold blkV
  go_enter Try.func3, Try.ntmps3
  go_wp2_with (first | (go_at_call 11; refine (live_any _).mono ?_; rintro r w1 ⟨rfl, hb1⟩; have Ya1 := Xa0.below hb1; have ca1 := Ya1.cells; have la1 := Ya1.lt; have Xa1 := Ya1; have Yb1 := Xb0.below hb1; have cb1 := Yb1.cells; have lb1 := Yb1.lt; have Xb1 := Yb1; have hB1 := below_trans hB0 hb1; clear hb1) | (go_at_call 12; refine (part_eq P1.out P2.out _).mono ?_; rintro r w2 ⟨rfl, hb2⟩; have Ya2 := Xa1.below hb2; have ca2 := Ya2.cells; have la2 := Ya2.lt; have Xa2 := Ya2.alloc (.cells #[.int .u64 (M.nu p.1), .int .u64 (M.nu p.2)] 24); have Yb2 := Xb1.below hb2; have cb2 := Yb2.cells; have lb2 := Yb2.lt; have Xb2 := Yb2.alloc (.cells #[.int .u64 (M.nu p.1), .int .u64 (M.nu p.2)] 24); have Xx2 := Bx2.new w2 p; have hB2 := below_one (below_trans hB1 hb2) (o := (.cells #[.int .u64 (M.nu p.1), .int .u64 (M.nu p.2)] 24)); clear hb2) | (go_at_call 13; refine (rpart_eq P1.out P2.out _).mono ?_; rintro r w3 ⟨rfl, hb3⟩; have Ya3 := Xa2.below hb3; have ca3 := Ya3.cells; have la3 := Ya3.lt; have Xa3 := Ya3.alloc (.cells #[.int .u64 (M.nu p.1), .int .u64 (M.nu p.2)] 24); have Yb3 := Xb2.below hb3; have cb3 := Yb3.cells; have lb3 := Yb3.lt; have Xb3 := Yb3.alloc (.cells #[.int .u64 (M.nu p.1), .int .u64 (M.nu p.2)] 24); have Yx3 := Xx2.below hb3; have cx3 := Yx3.cells; have lx3 := Yx3.lt; have Xx3 := Yx3.alloc (.cells #[.int .u64 (M.nu p.1), .int .u64 (M.nu p.2)] 24); have Xy3 := Bx2.new w3 p; have hB3 := below_one (below_trans hB2 hb3) (o := (.cells #[.int .u64 (M.nu p.1), .int .u64 (M.nu p.2)] 24)); clear hb3))
  generalize hWd : w3.alloc (.cells #[.int .u64 (M.nu p.1), .int .u64 (M.nu p.2)] 24) = W at *
  generalize w2.heap.size = Gx at *
  generalize w3.heap.size = Gy at *
  obtain ⟨G, HG, HF, HL, HSC, gW⟩ := goods w W [(w.heap.size, a), (w.heap.size + 1, b), (Gx, p), (Gy, p)] (by simp; exact ⟨Xa3, Xb3, Xx3, Xy3⟩) hB3
  have ca := (HF.out W gW (w.heap.size, a) (by simp)).cells
  have cb := (HF.out W gW (w.heap.size + 1, b) (by simp)).cells
  have cx := (HF.out W gW (Gx, p) (by simp)).cells
  have cy := (HF.out W gW (Gy, p) (by simp)).cells
  have gD := HG.out W W.drew gW (below_d1 (Below.refl _ _))
  clear Xa3 Xb3 Xx3 Xy3 hB3 hWd Xa2 Xb2 Xx2 hB2 Xa1 Xb1 hB1 Xa0 Xb0 hB0 Ya1 Yb1 ca1 cb1 la1 lb1 Ya2 Yb2 ca2 cb2 la2 lb2 Ya3 Yb3 Yx3 ca3 cb3 cx3 la3 lb3 lx3
  go_region_held (fun X => X.cell? ⟨w.heap.size, 0, none⟩ = some (.int .u64 (M.nu a.1)) ∧ X.cell? ⟨w.heap.size, 1, none⟩ = some (.int .u64 (M.nu a.2)) ∧ X.cell? ⟨w.heap.size + 1, 0, none⟩ = some (.int .u64 (M.nu b.1)) ∧ X.cell? ⟨w.heap.size + 1, 1, none⟩ = some (.int .u64 (M.nu b.2)) ∧ X.cell? ⟨Gx, 0, none⟩ = some (.int .u64 (M.nu p.1)) ∧ X.cell? ⟨Gx, 1, none⟩ = some (.int .u64 (M.nu p.2)) ∧ X.cell? ⟨Gy, 0, none⟩ = some (.int .u64 (M.nu p.1)) ∧ X.cell? ⟨Gy, 1, none⟩ = some (.int .u64 (M.nu p.2))) (go_keep)
    (first | (go_at_call 14; refine (mix_eq M1.out _).mono ?_; rintro r w4 ⟨rfl, hb⟩; have g := HG.out _ _ (by assumption) hb; have ca := (HF.out _ g (w.heap.size, a) (by simp)).cells; have cb := (HF.out _ g (w.heap.size + 1, b) (by simp)).cells; have cx := (HF.out _ g (Gx, p) (by simp)).cells; have cy := (HF.out _ g (Gy, p) (by simp)).cells; clear hb) | (go_at_call 15; refine (rmix_eq M1.out _).mono ?_; rintro r w5 ⟨rfl, hb⟩; have g := HG.out _ _ (by assumption) hb; have ca := (HF.out _ g (w.heap.size, a) (by simp)).cells; have cb := (HF.out _ g (w.heap.size + 1, b) (by simp)).cells; have cx := (HF.out _ g (Gx, p) (by simp)).cells; have cy := (HF.out _ g (Gy, p) (by simp)).cells; clear hb) | (go_at_call 16; refine (xor_eq M2.out _).mono ?_; rintro r w6 ⟨rfl, hb⟩; have g := HG.out _ _ (by assumption) hb; have ca := (HF.out _ g (w.heap.size, a) (by simp)).cells; have cb := (HF.out _ g (w.heap.size + 1, b) (by simp)).cells; have cx := (HF.out _ g (Gx, p) (by simp)).cells; have cy := (HF.out _ g (Gy, p) (by simp)).cells; clear hb) | (go_at_call 17; refine (rxor_eq M2.out _).mono ?_; rintro r w7 ⟨rfl, hb⟩; have g := HG.out _ _ (by assumption) hb; have ca := (HF.out _ g (w.heap.size, a) (by simp)).cells; have cb := (HF.out _ g (w.heap.size + 1, b) (by simp)).cells; have cx := (HF.out _ g (Gx, p) (by simp)).cells; have cy := (HF.out _ g (Gy, p) (by simp)).cells; clear hb) | (go_at_call 18; refine (octets_at a _).mono ?_; rintro r w8 ⟨go, rfl, hgo, _, hb⟩; have g := HG.out _ _ (by assumption) hb; have ca := (HF.out _ g (w.heap.size, a) (by simp)).cells; have cb := (HF.out _ g (w.heap.size + 1, b) (by simp)).cells; have cx := (HF.out _ g (Gx, p) (by simp)).cells; have cy := (HF.out _ g (Gy, p) (by simp)).cells; have co := conv_bs (Bs.of_box hgo); rw [HST.out] at co; (first | (have hrr := own_kept8 hro hb; have cr := conv_bs (Bs.of_own hrr (octs_fits a)); rw [HST.out] at cr) | skip); clear hb) | (go_at_call 19; refine (roctets_at a _).mono ?_; rintro r w9 ⟨v9, he, hro, hb⟩; obtain ⟨gr, capr, rfl⟩ := own_shape8 hro; subst he; have g := HG.out _ _ (by assumption) hb; have ca := (HF.out _ g (w.heap.size, a) (by simp)).cells; have cb := (HF.out _ g (w.heap.size + 1, b) (by simp)).cells; have cx := (HF.out _ g (Gx, p) (by simp)).cells; have cy := (HF.out _ g (Gy, p) (by simp)).cells; have cr := conv_bs (Bs.of_own hro (octs_fits a)); rw [HST.out] at cr; (first | (have hgg := hgo.below hb; have co := conv_bs (Bs.of_box hgg); rw [HST.out] at co) | skip); clear hb))
  all_goals go_wp2
  all_goals go_ret
  all_goals exact ⟨rfl, HL.out _ (by assumption)⟩
end Go.Proofs.Ytkigboncelhehaa
