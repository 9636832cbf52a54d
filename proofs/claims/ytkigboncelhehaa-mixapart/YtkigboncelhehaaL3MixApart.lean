/-
  The law MixApart: no two blocks have one Fold of one text; of a text of sixteen octets no two of these have one Fold into one block. Condition: the slice holds octets.
-/
import Derived.Test.YtkigboncelhehaaB15
import Derived.Test.YtkigboncelhehaaNQ
import Derived.Deep.DeepCutAuto
import Derived.Deep.RegionHeld3
namespace Go.Proofs.Ytkigboncelhehaa
open Go.RowKit
theorem box4 (w : World) (a b p q : M.Blk) (X : World) (hX : X = (((w.alloc (.cells #[.int .u64 (M.nu a.1), .int .u64 (M.nu a.2)] 24)).alloc (.cells #[.int .u64 (M.nu b.1), .int .u64 (M.nu b.2)] 24)).alloc (.cells #[.int .u64 (M.nu p.1), .int .u64 (M.nu p.2)] 24)).alloc (.cells #[.int .u64 (M.nu q.1), .int .u64 (M.nu q.2)] 24)) : Bx2 X w.heap.size a ∧ Bx2 X (w.heap.size + 1) b ∧ Bx2 X (w.heap.size + 1 + 1) p ∧ Bx2 X (w.heap.size + 1 + 1 + 1) q ∧ Below w.heap.size w X := by
  subst hX
  refine ⟨(((Bx2.new w a).alloc _).alloc _).alloc _, ?_, ?_, ?_, below_one (below_one (below_one (below_one (Below.refl _ _))))⟩
  · have := ((Bx2.new (w.alloc (.cells #[.int .u64 (M.nu a.1), .int .u64 (M.nu a.2)] 24)) b).alloc (.cells #[.int .u64 (M.nu p.1), .int .u64 (M.nu p.2)] 24)).alloc (.cells #[.int .u64 (M.nu q.1), .int .u64 (M.nu q.2)] 24)
    rwa [World.size_alloc] at this
  · have := (Bx2.new ((w.alloc (.cells #[.int .u64 (M.nu a.1), .int .u64 (M.nu a.2)] 24)).alloc (.cells #[.int .u64 (M.nu b.1), .int .u64 (M.nu b.2)] 24)) p).alloc (.cells #[.int .u64 (M.nu q.1), .int .u64 (M.nu q.2)] 24)
    rwa [World.size_alloc, World.size_alloc] at this
  · have := Bx2.new (((w.alloc (.cells #[.int .u64 (M.nu a.1), .int .u64 (M.nu a.2)] 24)).alloc (.cells #[.int .u64 (M.nu b.1), .int .u64 (M.nu b.2)] 24)).alloc (.cells #[.int .u64 (M.nu p.1), .int .u64 (M.nu p.2)] 24)) q
    rwa [World.size_alloc, World.size_alloc, World.size_alloc] at this
theorem goods (w W : World) (bs : List (Nat × M.Blk)) (h : ∀ p ∈ bs, Bx2 W p.1 p.2) (hB : Below w.heap.size w W) : ∃ G : World → Prop, Hid (∀ X X', G X → Below X.heap.size X X' → G X') ∧ Hid (∀ X, G X → ∀ p ∈ bs, Bx2 X p.1 p.2) ∧ Hid (∀ X, G X → Below w.heap.size w X) ∧ Hid (∀ X B o v, G X → W.heap.size ≤ B → G (X.setCell ⟨B, o, none⟩ v)) ∧ G W :=
  ⟨fun X => (∀ p ∈ bs, Bx2 X p.1 p.2) ∧ Below w.heap.size w X, fun _ _ h hb => ⟨fun p hp => (h.1 p hp).below hb, below_trans h.2 hb⟩, fun _ h => h.1, fun _ h => h.2, fun _ B _ _ hX hb => ⟨fun p hp => (hX.1 p hp).other (by have := (h p hp).lt; simp; omega) _, hX.2.setCell (by have := hB.size; simp; omega) _⟩, ⟨h, hB⟩⟩
theorem octets_at (b : M.Blk) (w : World) :
    Calls Try.prog 18 #[.agg #[.int .u64 (M.nu b.1), .int .u64 (M.nu b.2)]] w fun e w' => ∃ g, e = .returned (.slice (some ⟨g, 0, none⟩) 16 16) ∧ Bx16 w' g (M.oc b) ∧ w.heap.size ≤ g ∧ Below w.heap.size w w' := octets_any b w
set_option maxRecDepth 100000 in
set_option maxHeartbeats 4000000 in
theorem mixApart_walk (a b : M.Blk) (L : List Int) (v : Value) (p q : M.Blk) (w : World) (hu : Bs w v L) :
    Calls Try.prog 6 #[blkV a, blkV b, v, blkV p, blkV q] w fun e w' => e = .returned (.bool true) ∧ Below w.heap.size w w' := by
  have hq := eqB
  obtain ⟨Xa0, Xb0, Xp0, Xq0, hB0⟩ := box4 w a b p q _ rfl
  have HU := hid' hu
  obtain ⟨ao, cap, rfl, q1, q2, q3, q4⟩ := hu
  clear q3 q4
  unfold blkV
  by_cases hm : L.length ≤ 500
  · obtain ⟨x, hx⟩ : ∃ x, M.foldV a L = x := ⟨_, rfl⟩
    obtain ⟨y, hy⟩ : ∃ y, M.foldV b L = y := ⟨_, rfl⟩
    obtain ⟨s, hs⟩ : ∃ s, M.foldV a (M.octs p) = s := ⟨_, rfl⟩
    obtain ⟨t, ht⟩ : ∃ t, M.foldV a (M.octs q) = t := ⟨_, rfl⟩
    have i1 : (M.nu x.1 == M.nu y.1 && M.nu x.2 == M.nu y.2) = (M.nu a.1 == M.nu b.1 && M.nu a.2 == M.nu b.2) := by
      have h1 : M.foldV a L = M.fold a L := if_pos (by omega)
      have h2 : M.foldV b L = M.fold b L := if_pos (by omega)
      rw [← hx, ← hy, h1, h2, blk_beq, blk_beq]; simp [M.fold_inj]
    have i2 : (M.nu s.1 == M.nu t.1 && M.nu s.2 == M.nu t.2) = (M.nu p.1 == M.nu q.1 && M.nu p.2 == M.nu q.2) := by
      have h1 : M.foldV a (M.octs p) = M.fold a (M.octs p) := if_pos (by rw [octs_length]; omega)
      have h2 : M.foldV a (M.octs q) = M.fold a (M.octs q) := if_pos (by rw [octs_length]; omega)
      rw [← hs, ← ht, h1, h2, blk_beq, blk_beq]; simp [M.fold_octs_inj]
    have F1 := hid' hx
    have F2 := hid' hy
    have F3 := hid' hs
    have F4 := hid' ht
    have F5 : Hid (M.foldE L = 0) := if_pos (by omega)
    have F6 : Hid (M.foldE (M.octs p) = 0) := if_pos (by rw [octs_length]; omega)
    have F7 : Hid (M.foldE (M.octs q) = 0) := if_pos (by rw [octs_length]; omega)
    have T2 := hid' trivial
    clear hx hy hs ht
    generalize L.length = m at *
    go_enter Try.func6, Try.ntmps6
    go_upto_region 6 with (first | (go_at_call 11; refine (live_any _).mono ?_; rintro r w1 ⟨rfl, hb1⟩; have Ya1 := Xa0.below hb1; have ca1 := Ya1.cells; have la1 := Ya1.lt; have Xa1 := Ya1; have Yb1 := Xb0.below hb1; have cb1 := Yb1.cells; have lb1 := Yb1.lt; have Xb1 := Yb1; have Yp1 := Xp0.below hb1; have cp1 := Yp1.cells; have lp1 := Yp1.lt; have Xp1 := Yp1; have Yq1 := Xq0.below hb1; have cq1 := Yq1.cells; have lq1 := Yq1.lt; have Xq1 := Yq1; have hB1 := below_trans hB0 hb1; clear hb1) | (go_at_call 20; clear T2; refine (fold_eq F1.out F5.out _ (HU.out.below hB1)).mono ?_; rintro r w2 ⟨rfl, hb2⟩; have Ya2 := Xa1.below hb2; have ca2 := Ya2.cells; have la2 := Ya2.lt; have Xa2 := Ya2.alloc (.cells #[.int .u64 (M.nu x.1), .int .u64 (M.nu x.2)] 24); have Yb2 := Xb1.below hb2; have cb2 := Yb2.cells; have lb2 := Yb2.lt; have Xb2 := Yb2.alloc (.cells #[.int .u64 (M.nu x.1), .int .u64 (M.nu x.2)] 24); have Yp2 := Xp1.below hb2; have cp2 := Yp2.cells; have lp2 := Yp2.lt; have Xp2 := Yp2.alloc (.cells #[.int .u64 (M.nu x.1), .int .u64 (M.nu x.2)] 24); have Yq2 := Xq1.below hb2; have cq2 := Yq2.cells; have lq2 := Yq2.lt; have Xq2 := Yq2.alloc (.cells #[.int .u64 (M.nu x.1), .int .u64 (M.nu x.2)] 24); have Xx2 := Bx2.new w2 x; have hB2 := below_one (below_trans hB1 hb2) (o := (.cells #[.int .u64 (M.nu x.1), .int .u64 (M.nu x.2)] 24)); clear hb2) | (go_at_call 20; refine (fold_eq F2.out F5.out _ (HU.out.below hB2)).mono ?_; rintro r w3 ⟨rfl, hb3⟩; have Ya3 := Xa2.below hb3; have ca3 := Ya3.cells; have la3 := Ya3.lt; have Xa3 := Ya3.alloc (.cells #[.int .u64 (M.nu y.1), .int .u64 (M.nu y.2)] 24); have Yb3 := Xb2.below hb3; have cb3 := Yb3.cells; have lb3 := Yb3.lt; have Xb3 := Yb3.alloc (.cells #[.int .u64 (M.nu y.1), .int .u64 (M.nu y.2)] 24); have Yp3 := Xp2.below hb3; have cp3 := Yp3.cells; have lp3 := Yp3.lt; have Xp3 := Yp3.alloc (.cells #[.int .u64 (M.nu y.1), .int .u64 (M.nu y.2)] 24); have Yq3 := Xq2.below hb3; have cq3 := Yq3.cells; have lq3 := Yq3.lt; have Xq3 := Yq3.alloc (.cells #[.int .u64 (M.nu y.1), .int .u64 (M.nu y.2)] 24); have Yx3 := Xx2.below hb3; have cx3 := Yx3.cells; have lx3 := Yx3.lt; have Xx3 := Yx3.alloc (.cells #[.int .u64 (M.nu y.1), .int .u64 (M.nu y.2)] 24); have Xy3 := Bx2.new w3 y; have hB3 := below_one (below_trans hB2 hb3) (o := (.cells #[.int .u64 (M.nu y.1), .int .u64 (M.nu y.2)] 24)); clear hb3))
    have hs2 := Xx3.lt
    generalize hWd : w3.alloc (.cells #[.int .u64 (M.nu y.1), .int .u64 (M.nu y.2)] 24) = W at *
    generalize w2.heap.size = Gx at *
    generalize w3.heap.size = Gy at *
    obtain ⟨G, HG, HF, HL, HSC, gW⟩ := goods w W [(w.heap.size, a), (w.heap.size + 1, b), (w.heap.size + 1 + 1, p), (w.heap.size + 1 + 1 + 1, q), (Gx, x), (Gy, y)] (by simp; exact ⟨Xa3, Xb3, Xp3, Xq3, Xx3, Xy3⟩) hB3
    have ca := (HF.out W gW (w.heap.size, a) (by simp)).cells
    have cp := (HF.out W gW (w.heap.size + 1 + 1, p) (by simp)).cells
    have la := (HF.out W gW (w.heap.size, a) (by simp)).lt
    have lp := (HF.out W gW (w.heap.size + 1 + 1, p) (by simp)).lt
    have na := Nat.ne_of_gt la
    have np := Nat.ne_of_gt lp
    have gD := HG.out W W.drew gW (below_d1 (Below.refl _ _))
    clear Xa3 Xb3 Xp3 Xq3 Xx3 Xy3 hB3 hWd hs2 Xa2 Xb2 Xp2 Xq2 Xx2 hB2 Xa1 Xb1 Xp1 Xq1 hB1 Xa0 Xb0 Xp0 Xq0 hB0 Ya1 Yb1 Yp1 Yq1 ca1 cb1 cp1 cq1 la1 lb1 lp1 lq1 Ya2 Yb2 Yp2 Yq2 ca2 cb2 cp2 cq2 la2 lb2 lp2 lq2 Ya3 Yb3 Yp3 Yq3 Yx3 ca3 cb3 cp3 cq3 cx3 la3 lb3 lp3 lq3 lx3
    go_cut [16, 17] (fun u v wx => ∃ B, u = .pointer (some ⟨B, 0, none⟩) ∧ v = .int .i64 0 ∧ Bx2 wx B s ∧ G wx)
    case first =>
      go_region_held3 (fun X => X.cell? ⟨w.heap.size, 0, none⟩ = some (.int .u64 (M.nu a.1)) ∧ X.cell? ⟨w.heap.size, 1, none⟩ = some (.int .u64 (M.nu a.2)) ∧ X.cell? ⟨w.heap.size + 1 + 1, 0, none⟩ = some (.int .u64 (M.nu p.1)) ∧ X.cell? ⟨w.heap.size + 1 + 1, 1, none⟩ = some (.int .u64 (M.nu p.2))) (go_keep)
        (first | (go_at_call 18; refine (octets_at p _).mono ?_; rintro r wo ⟨g, rfl, hg, _, hb⟩; have go := HG.out _ wo (by first | exact gD | exact HG.out _ _ gD (below_one (Below.refl _ _))) hb; have hso : W.heap.size ≤ wo.heap.size := (by have := hb.size; simp at this; omega); (first | (have bz := Bx2.below (B := W.heap.size) (b := (0#64, 0#64)) (by exact Bx2.new W.drew (0#64, 0#64)) hb) | skip); clear hb; have cao := (HF.out wo go (w.heap.size, a) (by simp)).cells; have lao := (HF.out wo go (w.heap.size, a) (by simp)).lt; have cpo := (HF.out wo go (w.heap.size + 1 + 1, p) (by simp)).cells; have lpo := (HF.out wo go (w.heap.size + 1 + 1, p) (by simp)).lt; have nao := Nat.ne_of_gt lao; have npo := Nat.ne_of_gt lpo) | (go_at_call 20; refine (fold_eq F3.out F6.out _ (by first | exact Bs.of_box hg | exact (Bs.of_box hg).alloc _)).mono ?_; rintro r wf ⟨rfl, hb⟩; have gf := HG.out _ wf (by first | exact go | exact HG.out _ _ go (below_one (Below.refl _ _))) hb; have caf := (HF.out wf gf (w.heap.size, a) (by simp)).cells; have laf := (HF.out wf gf (w.heap.size, a) (by simp)).lt; have cpf := (HF.out wf gf (w.heap.size + 1 + 1, p) (by simp)).cells; have lpf := (HF.out wf gf (w.heap.size + 1 + 1, p) (by simp)).lt; (first | (have bz2 := Bx2.below (B := wo.heap.size) (b := (0#64, 0#64)) (by exact Bx2.new wo (0#64, 0#64)) hb; obtain ⟨z0, z1, zf0, zf1⟩ := bz2.facts) | (have bz2 := bz.below hb; obtain ⟨z0, z1, zf0, zf1⟩ := bz2.facts) | skip); clear hb))
      all_goals go_wp2
      all_goals go_meet
      all_goals first | exact ⟨_, rfl, rfl, Bx2.new wf s, HG.out _ _ gf (below_one (Below.refl _ _))⟩ | exact ⟨_, rfl, rfl, bz2.set s, HSC.out _ _ _ _ (HSC.out _ _ _ _ gf (by omega)) (by omega)⟩
    case rest =>
      obtain ⟨Gs, rfl, rfl, Xs, gc⟩ := hcut
      have hall := HF.out wc gc
      have hlow := HL.out wc gc
      clear gc HG HF HL HSC gW ca cp la lp na np gD
      clear G
      rename World => W2
      obtain ⟨G, HG, HF, HL, HSC, gW⟩ := goods w W2 [(w.heap.size, a), (w.heap.size + 1, b), (w.heap.size + 1 + 1, p), (w.heap.size + 1 + 1 + 1, q), (Gx, x), (Gy, y), (Gs, s)] (by have h := hall; simp at h ⊢; exact ⟨h.1, h.2.1, h.2.2.1, h.2.2.2.1, h.2.2.2.2.1, h.2.2.2.2.2, Xs⟩) hlow
      clear Xs hall hlow
      have ca := (HF.out W2 gW (w.heap.size, a) (by simp)).cells
      have cq := (HF.out W2 gW (w.heap.size + 1 + 1 + 1, q) (by simp)).cells
      have la := (HF.out W2 gW (w.heap.size, a) (by simp)).lt
      have lq := (HF.out W2 gW (w.heap.size + 1 + 1 + 1, q) (by simp)).lt
      have na := Nat.ne_of_gt la
      have nq := Nat.ne_of_gt lq
      have gD := HG.out W2 W2.drew gW (below_d1 (Below.refl _ _))
      go_upto_region 7 with (fail)
      go_cut [18, 19] (fun u v wx => ∃ B, u = .pointer (some ⟨B, 0, none⟩) ∧ v = .int .i64 0 ∧ Bx2 wx B t ∧ G wx)
      case first =>
        go_region_held3 (fun X => X.cell? ⟨w.heap.size, 0, none⟩ = some (.int .u64 (M.nu a.1)) ∧ X.cell? ⟨w.heap.size, 1, none⟩ = some (.int .u64 (M.nu a.2)) ∧ X.cell? ⟨w.heap.size + 1 + 1 + 1, 0, none⟩ = some (.int .u64 (M.nu q.1)) ∧ X.cell? ⟨w.heap.size + 1 + 1 + 1, 1, none⟩ = some (.int .u64 (M.nu q.2))) (go_keep)
          (first | (go_at_call 18; refine (octets_at q _).mono ?_; rintro r wo ⟨g, rfl, hg, _, hb⟩; have go := HG.out _ wo (by first | exact gD | exact HG.out _ _ gD (below_one (Below.refl _ _))) hb; have hso : W2.heap.size ≤ wo.heap.size := (by have := hb.size; simp at this; omega); (first | (have bz := Bx2.below (B := W2.heap.size) (b := (0#64, 0#64)) (by exact Bx2.new W2.drew (0#64, 0#64)) hb) | skip); clear hb; have cao := (HF.out wo go (w.heap.size, a) (by simp)).cells; have lao := (HF.out wo go (w.heap.size, a) (by simp)).lt; have cpo := (HF.out wo go (w.heap.size + 1 + 1 + 1, q) (by simp)).cells; have lpo := (HF.out wo go (w.heap.size + 1 + 1 + 1, q) (by simp)).lt; have nao := Nat.ne_of_gt lao; have npo := Nat.ne_of_gt lpo) | (go_at_call 20; refine (fold_eq F4.out F7.out _ (by first | exact Bs.of_box hg | exact (Bs.of_box hg).alloc _)).mono ?_; rintro r wf ⟨rfl, hb⟩; have gf := HG.out _ wf (by first | exact go | exact HG.out _ _ go (below_one (Below.refl _ _))) hb; have caf := (HF.out wf gf (w.heap.size, a) (by simp)).cells; have laf := (HF.out wf gf (w.heap.size, a) (by simp)).lt; have cpf := (HF.out wf gf (w.heap.size + 1 + 1 + 1, q) (by simp)).cells; have lpf := (HF.out wf gf (w.heap.size + 1 + 1 + 1, q) (by simp)).lt; (first | (have bz2 := Bx2.below (B := wo.heap.size) (b := (0#64, 0#64)) (by exact Bx2.new wo (0#64, 0#64)) hb; obtain ⟨z0, z1, zf0, zf1⟩ := bz2.facts) | (have bz2 := bz.below hb; obtain ⟨z0, z1, zf0, zf1⟩ := bz2.facts) | skip); clear hb))
        all_goals go_wp2
        all_goals go_meet
        all_goals first | exact ⟨_, rfl, rfl, Bx2.new wf t, HG.out _ _ gf (below_one (Below.refl _ _))⟩ | exact ⟨_, rfl, rfl, bz2.set t, HSC.out _ _ _ _ (HSC.out _ _ _ _ gf (by omega)) (by omega)⟩
      case rest =>
        obtain ⟨Gt, rfl, rfl, Xt, gc⟩ := hcut
        have da := (HF.out wc gc (w.heap.size, a) (by simp)).cells
        have db := (HF.out wc gc (w.heap.size + 1, b) (by simp)).cells
        have dp := (HF.out wc gc (w.heap.size + 1 + 1, p) (by simp)).cells
        have dq := (HF.out wc gc (w.heap.size + 1 + 1 + 1, q) (by simp)).cells
        have dx := (HF.out wc gc (Gx, x) (by simp)).cells
        have dy := (HF.out wc gc (Gy, y) (by simp)).cells
        have ds := (HF.out wc gc (Gs, s) (by simp)).cells
        have dt := Xt.cells
        have hBc := HL.out wc gc
        clear ca cq la lq na nq gD gW
        go_wp2
        go_quiet (fail)
        go_wp2
        go_ret
        exact ⟨rfl, by first | exact below_dr hBc _ | exact below_d1 hBc | exact hBc⟩
  · generalize L.length = m at *
    go_enter Try.func6, Try.ntmps6
    go_wp2_with (first | (go_at_call 11; refine (live_any _).mono ?_; rintro r w1 ⟨rfl, hb1⟩; have Ya1 := Xa0.below hb1; have ca1 := Ya1.cells; have la1 := Ya1.lt; have Xa1 := Ya1; have Yb1 := Xb0.below hb1; have cb1 := Yb1.cells; have lb1 := Yb1.lt; have Xb1 := Yb1; have Yp1 := Xp0.below hb1; have cp1 := Yp1.cells; have lp1 := Yp1.lt; have Xp1 := Yp1; have Yq1 := Xq0.below hb1; have cq1 := Yq1.cells; have lq1 := Yq1.lt; have Xq1 := Yq1; have hB1 := below_trans hB0 hb1; clear hb1))
    go_ret
    exact ⟨rfl, hB1⟩
end Go.Proofs.Ytkigboncelhehaa
