/-
  The law MixParts: a text's Fold is that of its beginning of whole sixteens, and then of the rest; zeros behind the last ones, up to a whole sixteen, change nothing. Condition: the slice holds octets.
-/
import Derived.Test.YtkigboncelhehaaB16
namespace Go.Proofs.Ytkigboncelhehaa
open Go.RowKit
theorem own_slice8 {w : World} {base : Nat} {e : TypeId} {v : Value} {n : Nat} {xs : List Value} (h : w.ownsRow base e 1 v n xs) : ∃ ao cap, v = .slice ao n cap := by
  rcases h.2 with ⟨h1, h2⟩ | ⟨g, cap, cur, h2, _⟩
  · exact ⟨none, 0, by rw [h1, h2]⟩
  · exact ⟨some ⟨g, 0, none⟩, cap, h2⟩
theorem Bs.some_of {W : World} {ao : Option Addr} {n cap : Nat} {L : List Int} (h : Bs W (.slice ao n cap) L) (h0 : 0 < cap) : ∃ b off, ao = some ⟨b, off, none⟩ ∧ True := by
  obtain ⟨ao', cap', e, q1, q2, q3, q4⟩ := h
  simp only [Value.slice.injEq] at e
  obtain ⟨rfl, _, rfl⟩ := e
  obtain ⟨b, off, e, _⟩ := q4 h0
  exact ⟨b, off, e, trivial⟩
set_option maxRecDepth 100000 in
set_option maxHeartbeats 4000000 in
theorem mixParts_walk (b : M.Blk) (L : List Int) (v : Value) (c : Int) (w : World) (hu : Bs w v L) (hc0 : 0 ≤ c) (hc1 : c ≤ 255) :
    Calls Try.prog 7 #[blkV b, v, .int .u8 c] w fun e w' => e = .returned (.bool true) ∧ Below w.heap.size w w' := by
  have hq := eqB
  have Xb0 := Bx2.new w b
  have hB0 := below_one (Below.refl _ w) (o := (.cells #[.int .u64 (M.nu b.1), .int .u64 (M.nu b.2)] 24))
  have HU := hid' hu
  have hu0 := hu
  obtain ⟨ao, cap, rfl, q1, q2, q3, q4⟩ := hu0
  clear q3 q4
  unfold blkV
  by_cases hm : L.length ≤ 500
  · obtain ⟨K, hK⟩ : ∃ K : Nat, K = min c.toNat (L.length / 16) := ⟨_, rfl⟩
    have hKm : 16 * K ≤ L.length := by omega
    obtain ⟨x, hx⟩ : ∃ x, M.foldV b L = x := ⟨_, rfl⟩
    obtain ⟨y, hy⟩ : ∃ y, M.foldV b (L.take (16 * K)) = y := ⟨_, rfl⟩
    have hxy : M.foldV y (L.drop (16 * K)) = x := by
      have h1 : M.foldV b L = M.fold b L := if_pos (by omega)
      have h2 : M.foldV b (L.take (16 * K)) = M.fold b (L.take (16 * K)) := if_pos (by rw [List.length_take]; omega)
      have h3 : ∀ z, M.foldV z (L.drop (16 * K)) = M.fold z (L.drop (16 * K)) := fun z => if_pos (by rw [List.length_drop]; omega)
      rw [← hx, ← hy, h1, h2, h3, M.fold_parts b L K hKm]
    have F1 := hid' hx
    have F2 := hid' hy
    have F3 := hid' hxy
    have F5 : Hid (M.foldE L = 0) := if_pos (by omega)
    have F6 : Hid (M.foldE (L.take (16 * K)) = 0) := if_pos (by rw [List.length_take]; omega)
    have F7 : Hid (M.foldE (L.drop (16 * K)) = 0) := if_pos (by rw [List.length_drop]; omega)
    have hAi : (16 * K : Nat) = (if (L.length : Int) / 16 * 16 < 16 * c then (L.length : Int) / 16 * 16 else 16 * c) := by split <;> omega
    have HA := hid' hAi
    clear hx hy hxy hAi hu
    generalize hmm : L.length = m at *
    go_enter Try.func7, Try.ntmps7
    go_upto_region 6 with (first | (go_at_call 11; refine (live_any _).mono ?_; rintro r w1 ⟨rfl, hb1⟩; have Yb1 := Xb0.below hb1; have cb1 := Yb1.cells; have lb1 := Yb1.lt; have Xb1 := Yb1; have hB1 := below_trans hB0 hb1; clear hb1) | (go_at_call 20; refine (fold_eq F1.out F5.out _ (HU.out.below hB1)).mono ?_; rintro r w2 ⟨rfl, hb2⟩; have Yb2 := Xb1.below hb2; have cb2 := Yb2.cells; have lb2 := Yb2.lt; have Xb2 := Yb2.alloc (.cells #[.int .u64 (M.nu x.1), .int .u64 (M.nu x.2)] 24); have Xx2 := Bx2.new w2 x; have hB2 := below_one (below_trans hB1 hb2) (o := (.cells #[.int .u64 (M.nu x.1), .int .u64 (M.nu x.2)] 24)); clear hb2))
    rw [← HA.out]
    clear HA
    generalize hA : 16 * K = A at *
    generalize hWd : w2.alloc (.cells #[.int .u64 (M.nu x.1), .int .u64 (M.nu x.2)] 24) = W at *
    generalize w2.heap.size = Gx at *
    obtain ⟨G, HG, HF, HL, HSC, gW⟩ := goods w W [(w.heap.size, b), (Gx, x)] (by simp; exact ⟨Xb2, Xx2⟩) hB2
    clear Xb2 Xx2 hB2 hWd Xb1 hB1 Xb0 hB0 Yb1 cb1 lb1 Yb2 cb2 lb2
    have ca := (HF.out W gW (w.heap.size, b) (by simp)).cells
    have la := (HF.out W gW (w.heap.size, b) (by simp)).lt
    have na := Nat.ne_of_gt la
    have gD := HG.out W W.drew gW (below_d1 (Below.refl _ _))
    go_cut [11, 12] (fun u v wx => ∃ B, u = .pointer (some ⟨B, 0, none⟩) ∧ v = .int .i64 0 ∧ Bx2 wx B y ∧ G wx)
    case first =>
      by_cases hcap : cap = 0
      · subst hcap
        obtain rfl : m = 0 := by omega
        obtain rfl : A = 0 := by omega
        have HBL : Hid (Bs w (.slice ao 0 0) (L.take 0)) := by
          show Bs _ _ _
          rw [List.take_zero]; exact Bs.nul w ao
        go_region_held3 (fun X => X.cell? ⟨w.heap.size, 0, none⟩ = some (.int .u64 (M.nu b.1)) ∧ X.cell? ⟨w.heap.size, 1, none⟩ = some (.int .u64 (M.nu b.2))) (go_keep)
          (first | (go_at_call 20; refine (fold_eq F2.out F6.out _ (HBL.out.below (HL.out _ (by first | exact gD | exact HG.out _ _ gD (below_one (Below.refl _ _)))))).mono ?_; rintro r wf ⟨rfl, hb⟩; have gf := HG.out _ wf (by first | exact gD | exact HG.out _ _ gD (below_one (Below.refl _ _))) hb; have caf := (HF.out wf gf (w.heap.size, b) (by simp)).cells; (first | (have bz2 := Bx2.below (B := W.heap.size) (b := (0#64, 0#64)) (by exact Bx2.new W.drew (0#64, 0#64)) hb; obtain ⟨z0, z1, zf0, zf1⟩ := bz2.facts) | skip); clear hb))
        all_goals go_wp2
        all_goals go_meet
        all_goals first | exact ⟨_, rfl, rfl, Bx2.new wf y, HG.out _ _ gf (below_one (Below.refl _ _))⟩ | exact ⟨_, rfl, rfl, bz2.set y, HSC.out _ _ _ _ (HSC.out _ _ _ _ gf (by omega)) (by omega)⟩
      · obtain ⟨b0, off, rfl, _⟩ := HU.out.some_of (by omega)
        have HBL := hid' (HU.out.take hKm)
        have hAc : A ≤ cap := by omega
        go_region_held3 (fun X => X.cell? ⟨w.heap.size, 0, none⟩ = some (.int .u64 (M.nu b.1)) ∧ X.cell? ⟨w.heap.size, 1, none⟩ = some (.int .u64 (M.nu b.2))) (go_keep)
          (first | (go_at_call 20; refine (fold_eq F2.out F6.out _ (HBL.out.below (HL.out _ (by first | exact gD | exact HG.out _ _ gD (below_one (Below.refl _ _)))))).mono ?_; rintro r wf ⟨rfl, hb⟩; have gf := HG.out _ wf (by first | exact gD | exact HG.out _ _ gD (below_one (Below.refl _ _))) hb; have caf := (HF.out wf gf (w.heap.size, b) (by simp)).cells; (first | (have bz2 := Bx2.below (B := W.heap.size) (b := (0#64, 0#64)) (by exact Bx2.new W.drew (0#64, 0#64)) hb; obtain ⟨z0, z1, zf0, zf1⟩ := bz2.facts) | skip); clear hb))
        all_goals go_wp2
        all_goals go_meet
        all_goals first | exact ⟨_, rfl, rfl, Bx2.new wf y, HG.out _ _ gf (below_one (Below.refl _ _))⟩ | exact ⟨_, rfl, rfl, bz2.set y, HSC.out _ _ _ _ (HSC.out _ _ _ _ gf (by omega)) (by omega)⟩
    case rest =>
      obtain ⟨Gy, rfl, rfl, Xs, gc⟩ := hcut
      have hall := HF.out wc gc
      have hlow := HL.out wc gc
      clear gc HG HF HL HSC gW ca la na gD
      clear G
      rename World => W2
      obtain ⟨G, HG, HF, HL, HSC, gW⟩ := goods w W2 [(w.heap.size, b), (Gx, x), (Gy, y)] (by have h := hall; simp at h ⊢; exact ⟨h.1, h.2, Xs⟩) hlow
      clear Xs hall hlow
      have ca := (HF.out W2 gW (Gy, y) (by simp)).cells
      have la := (HF.out W2 gW (Gy, y) (by simp)).lt
      have na := Nat.ne_of_gt la
      have gD := HG.out W2 W2.drew gW (below_d1 (Below.refl _ _))
      go_upto_region 7 with (fail)
      go_cut [13, 14] (fun u v wx => ∃ B, u = .pointer (some ⟨B, 0, none⟩) ∧ v = .int .i64 0 ∧ Bx2 wx B x ∧ G wx)
      case first =>
        by_cases hcap : cap = 0
        · subst hcap
          obtain rfl : m = 0 := by omega
          obtain rfl : A = 0 := by omega
          have HBR : Hid (Bs w (.slice ao 0 0) (L.drop 0)) := HU.out
          go_region_held3 (fun X => X.cell? ⟨Gy, 0, none⟩ = some (.int .u64 (M.nu y.1)) ∧ X.cell? ⟨Gy, 1, none⟩ = some (.int .u64 (M.nu y.2))) (go_keep)
            (first | (go_at_call 20; refine (fold_eq F3.out F7.out _ (HBR.out.below (HL.out _ (by first | exact gD | exact HG.out _ _ gD (below_one (Below.refl _ _)))))).mono ?_; rintro r wf ⟨rfl, hb⟩; have gf := HG.out _ wf (by first | exact gD | exact HG.out _ _ gD (below_one (Below.refl _ _))) hb; have caf := (HF.out wf gf (Gy, y) (by simp)).cells; (first | (have bz2 := Bx2.below (B := W2.heap.size) (b := (0#64, 0#64)) (by exact Bx2.new W2.drew (0#64, 0#64)) hb; obtain ⟨z0, z1, zf0, zf1⟩ := bz2.facts) | skip); clear hb))
          all_goals go_wp2
          all_goals go_meet
          all_goals first | exact ⟨_, rfl, rfl, Bx2.new wf x, HG.out _ _ gf (below_one (Below.refl _ _))⟩ | exact ⟨_, rfl, rfl, bz2.set x, HSC.out _ _ _ _ (HSC.out _ _ _ _ gf (by omega)) (by omega)⟩
        · obtain ⟨b0, off, rfl, _⟩ := HU.out.some_of (by omega)
          by_cases hA0 : A = 0
          · subst hA0
            have HBR : Hid (Bs w (.slice (some ⟨b0, off, none⟩) m cap) (L.drop 0)) := HU.out
            go_region_held3 (fun X => X.cell? ⟨Gy, 0, none⟩ = some (.int .u64 (M.nu y.1)) ∧ X.cell? ⟨Gy, 1, none⟩ = some (.int .u64 (M.nu y.2))) (go_keep)
              (first | (go_at_call 20; refine (fold_eq F3.out F7.out _ (HBR.out.below (HL.out _ (by first | exact gD | exact HG.out _ _ gD (below_one (Below.refl _ _)))))).mono ?_; rintro r wf ⟨rfl, hb⟩; have gf := HG.out _ wf (by first | exact gD | exact HG.out _ _ gD (below_one (Below.refl _ _))) hb; have caf := (HF.out wf gf (Gy, y) (by simp)).cells; (first | (have bz2 := Bx2.below (B := W2.heap.size) (b := (0#64, 0#64)) (by exact Bx2.new W2.drew (0#64, 0#64)) hb; obtain ⟨z0, z1, zf0, zf1⟩ := bz2.facts) | skip); clear hb))
            all_goals go_wp2
            all_goals go_meet
            all_goals first | exact ⟨_, rfl, rfl, Bx2.new wf x, HG.out _ _ gf (below_one (Below.refl _ _))⟩ | exact ⟨_, rfl, rfl, bz2.set x, HSC.out _ _ _ _ (HSC.out _ _ _ _ gf (by omega)) (by omega)⟩
          · obtain ⟨r1, r2⟩ := HU.out.rest hKm (by omega)
            by_cases hcA : cap = A
            · subst hcA
              obtain rfl : m = cap := by omega
              have HBR : Hid (Bs w (.slice (some ⟨b0, off, none⟩) 0 0) (L.drop m)) := by
                have h := r2 rfl
                rw [Nat.sub_self] at h
                exact h
              clear r1 r2
              go_region_held3 (fun X => X.cell? ⟨Gy, 0, none⟩ = some (.int .u64 (M.nu y.1)) ∧ X.cell? ⟨Gy, 1, none⟩ = some (.int .u64 (M.nu y.2))) (go_keep)
                (first | (go_at_call 20; refine (fold_eq F3.out F7.out _ (HBR.out.below (HL.out _ (by first | exact gD | exact HG.out _ _ gD (below_one (Below.refl _ _)))))).mono ?_; rintro r wf ⟨rfl, hb⟩; have gf := HG.out _ wf (by first | exact gD | exact HG.out _ _ gD (below_one (Below.refl _ _))) hb; have caf := (HF.out wf gf (Gy, y) (by simp)).cells; (first | (have bz2 := Bx2.below (B := W2.heap.size) (b := (0#64, 0#64)) (by exact Bx2.new W2.drew (0#64, 0#64)) hb; obtain ⟨z0, z1, zf0, zf1⟩ := bz2.facts) | skip); clear hb))
              all_goals go_wp2
              all_goals go_meet
              all_goals first | exact ⟨_, rfl, rfl, Bx2.new wf x, HG.out _ _ gf (below_one (Below.refl _ _))⟩ | exact ⟨_, rfl, rfl, bz2.set x, HSC.out _ _ _ _ (HSC.out _ _ _ _ gf (by omega)) (by omega)⟩
            · have HBR := hid' (r1 hcA)
              clear r1 r2
              have hAc : A ≤ cap := by omega
              go_region_held3 (fun X => X.cell? ⟨Gy, 0, none⟩ = some (.int .u64 (M.nu y.1)) ∧ X.cell? ⟨Gy, 1, none⟩ = some (.int .u64 (M.nu y.2))) (go_keep)
                (first | (go_at_call 20; refine (fold_eq F3.out F7.out _ (HBR.out.below (HL.out _ (by first | exact gD | exact HG.out _ _ gD (below_one (Below.refl _ _)))))).mono ?_; rintro r wf ⟨rfl, hb⟩; have gf := HG.out _ wf (by first | exact gD | exact HG.out _ _ gD (below_one (Below.refl _ _))) hb; have caf := (HF.out wf gf (Gy, y) (by simp)).cells; (first | (have bz2 := Bx2.below (B := W2.heap.size) (b := (0#64, 0#64)) (by exact Bx2.new W2.drew (0#64, 0#64)) hb; obtain ⟨z0, z1, zf0, zf1⟩ := bz2.facts) | skip); clear hb))
              all_goals go_wp2
              all_goals go_meet
              all_goals first | exact ⟨_, rfl, rfl, Bx2.new wf x, HG.out _ _ gf (below_one (Below.refl _ _))⟩ | exact ⟨_, rfl, rfl, bz2.set x, HSC.out _ _ _ _ (HSC.out _ _ _ _ gf (by omega)) (by omega)⟩
      case rest =>
        obtain ⟨Gz, rfl, rfl, Xs, gc⟩ := hcut
        have hall := HF.out wc gc
        have hlow := HL.out wc gc
        clear gc HG HF HL HSC gW ca la na gD
        clear G
        rename World => W3
        have hall2 : ∀ p ∈ [(w.heap.size, b), (Gx, x), (Gz, x)], Bx2 W3 p.1 p.2 := by have h := hall; simp at h ⊢; exact ⟨h.1, h.2.1, Xs⟩
        have HUc := hid' (HU.out.below hlow)
        have hfit := HU.out.fits
        have HFT : Hid (∀ j, ∀ z ∈ L ++ List.replicate j 0, 0 ≤ z ∧ z ≤ 255) := fun j z hz => by
          rcases List.mem_append.1 hz with h | h
          · exact hfit z h
          · rw [List.mem_replicate] at h; omega
        obtain ⟨J, hJ⟩ : ∃ J : Nat, J = (16 - m % 16) % 16 := ⟨_, rfl⟩
        have hJ1 : (m + J) % 16 = 0 := by omega
        have hJ2 : ∀ j, j < J → ¬ (m + j) % 16 = 0 := fun j hj => by omega
        have hJ16 : J < 16 := by omega
        have F8 : Hid (M.foldV b (L ++ List.replicate J 0) = x) := by
          show _ = _
          rw [← F1.out, show M.foldV b (L ++ List.replicate J 0) = M.fold b (L ++ List.replicate J 0) from if_pos (by rw [List.length_append, List.length_replicate]; omega), show M.foldV b L = M.fold b L from if_pos (by omega)]
          apply M.fold_zeros
          unfold M.pcs
          rw [List.length_append, List.length_replicate]; omega
        have F9 : Hid (M.foldE (L ++ List.replicate J 0) = 0) := if_pos (by rw [List.length_append, List.length_replicate]; omega)
        have HJ1 := hid' hJ1
        have HJ2 := hid' hJ2
        obtain ⟨i0, hi, hz0, hz1, hz2⟩ := info_parts Try.infoU8
        have HA3 := hid' hall2
        have HL3 := hid' hlow
        have Hmm := hid' hmm
        clear hall hall2 Xs hlow hfit hJ hJ1 hJ2 hmm hA hK F2 F3 F6 F7 F5
        go_wp2_with (at_builtin; refine wpList_append_bs rfl _ _ 31 rfl W3.heap.size 5 i0 Try.underlying31 hi hz0 hz1 hz2 (.slice none 0 0) 0 [] rfl (World.ownsRow_nil _ _ _ _) _ L rfl HUc.out (by have := Hmm.out; omega) (Nat.le_refl _) ?_; intro v4 w4 hown4 hgrow4; have hb4 : Below W3.heap.size W3 w4 := (Below.refl _ _).grown hgrow4 (Nat.le_refl _) (fun k hk => by cases hk); have HW4 := hid' hown4; clear hown4 hgrow4)
        go_loopw [15] (fun t wr => ∃ j : Nat, j ≤ J ∧ wr.ownsRow W3.heap.size 5 1 t (m + j) (u8s (L ++ List.replicate j 0)) ∧ Below W3.heap.size W3 wr) (fun t _ => m + 16 - lenOfV t)
        case atStart =>
          refine ⟨0, by omega, ?_, hb4⟩
          have h := HW4.out
          rw [Nat.zero_add, Hmm.out, List.nil_append] at h
          simpa using h
        case round =>
          clear HW4 hb4
          obtain ⟨j, hj, hown, hb⟩ := hrel
          obtain ⟨aj, capj, rfl⟩ := own_slice8 hown
          have HO := hid' hown
          have HS := hid' hb.size
          clear hown
          by_cases hlt : j < J
          · have hr : ¬ ((m + j : Nat) : Int) % 16 = 0 := by have := HJ2.out j hlt; omega
            have hr2 : (((m + j : Nat) : Int) % 16 == 0) = false := by simpa using hr
            generalize hn : m + j = n at *
            go_wp2_with (at_builtin; refine wpList_append_own _ rfl _ _ 31 rfl W3.heap.size 5 i0 (.int .u8 0) 1 1 Try.underlying31 hi hz0 hz1 hz2 rfl (by decide) _ _ _ rfl (HO.out.alloc _) ⟨wr.heap.size, 0, none⟩ 1 1 [.int .u8 0] rfl rfl ?c1 ?c2 ?c3 ?c4 ?c5 ?_)
            case c1 =>
              intro j u hj
              match j, hj with
              | 0, hj => simp at hj; subst hj; simp [Addr.add]
            case c2 => intro u hu; simp at hu; subst hu; rfl
            case c3 => unfold maxLen; omega
            case c4 => omega
            case c5 => have := HS.out; simp; omega
            intro v' w5 hown5 hgrow5 _
            obtain ⟨g', cap', hv⟩ := own_shape8 hown5
            have hb5 : Below W3.heap.size W3 w5 := (hb.alloc HS.out _).grown hgrow5 (by have := HS.out; simp; omega) (fun k hk => (HO.out.lt k hk).1)
            rw [hv] at hown5 ⊢
            have hfin : w5.ownsRow W3.heap.size 5 1 (.slice (some ⟨g', 0, none⟩) (n + 1) cap') (n + 1) (u8s (L ++ List.replicate (j + 1) 0)) := by
              rw [List.replicate_succ', ← List.append_assoc]; unfold u8s; rw [List.map_append]; exact hown5
            have HF5 := hid' hfin
            clear hown5 hgrow5 hfin HO hv
            go_wp2
            go_roundw
            case rel => exact ⟨j + 1, by omega, by rw [← Nat.add_assoc, hn]; exact HF5.out, hb5⟩
            case measure => simp [lenOfV]; omega
          · obtain rfl : j = J := by omega
            have hr : ((m + j : Nat) : Int) % 16 = 0 := by have := HJ1.out; omega
            have HBM := hid' (Bs.of_own HO.out (HFT.out j))
            obtain ⟨G, HG, HF, HL, HSC, gW⟩ := goods w W3 [(w.heap.size, b), (Gx, x), (Gz, x)] HA3.out HL3.out
            have gr := HG.out W3 wr gW hb
            have cb := (HF.out wr gr (w.heap.size, b) (by simp)).cells
            generalize m + j = n at *
            go_wp2_with (first | (go_at_call 20; refine (fold_eq F8.out F9.out _ HBM.out).mono ?_; rintro r w6 ⟨rfl, hb6⟩; have g6 := HG.out wr w6 gr hb6; have dx := (HF.out w6 g6 (Gx, x) (by simp)).cells; have dz := (HF.out w6 g6 (Gz, x) (by simp)).cells; have lx := (HF.out w6 g6 (Gx, x) (by simp)).lt; have lz := (HF.out w6 g6 (Gz, x) (by simp)).lt; have hB6 := HL.out w6 g6; clear hb6))
            go_ret
            exact ⟨rfl, below_one hB6⟩
  · generalize L.length = m at *
    go_enter Try.func7, Try.ntmps7
    go_wp2_with (first | (go_at_call 11; refine (live_any _).mono ?_; rintro r w1 ⟨rfl, hb1⟩; have Yb1 := Xb0.below hb1; have cb1 := Yb1.cells; have lb1 := Yb1.lt; have Xb1 := Yb1; have hB1 := below_trans hB0 hb1; clear hb1))
    go_ret
    exact ⟨rfl, hB1⟩
end Go.Proofs.Ytkigboncelhehaa
