/-
  What the program's label.Walk, label.Node, label.Label and label.Key answer, at every input. Conditions: the slices hold terms and numbers; whole numbers are such.
-/
import Derived.Test.YthmiekinjfaflaaGreatZA1
import Derived.Test.YthmiekinjfaflaaGreatZLD3
import Derived.Test.YthmiekinjfaflaaGreatZM3
import Derived.Test.YthmiekinjfaflaaGreatZXD0
namespace Go.Proofs.YthmiekinjfaflaaGreat
open Go.RowKit
set_option maxRecDepth 100000 in
set_option maxHeartbeats 4000000 in
theorem llab_eq {A : List M.Tm} {h : Int} {m : M.Val} {I J : Int} {x : M.Val} {L : List M.Tm} {n : Int} (hx : M.labA A h m I J = (x, L, n)) (i0 : 0 ≤ I) (i1 : I ≤ 18446744073709551615) (j0 : 0 ≤ J) (j1 : J ≤ 18446744073709551615) {vl : Value} (w : World) (u : Ts w vl A) :
    Calls Tryz.prog 31 #[vl, .int .i64 h, (.agg #[.bool m.1, .bool m.2.1, .int .u64 (M.nu m.2.2.1.1), .int .u64 (M.nu m.2.2.1.2), .int .u64 (M.nu m.2.2.2.1.1.1), .int .u64 (M.nu m.2.2.2.1.1.2), .int .u64 (M.nu m.2.2.2.1.2.1), .int .u64 (M.nu m.2.2.2.1.2.2), .int .i64 m.2.2.2.2]), .agg #[.int .u64 I, .int .u64 J]] w fun e w' => ∃ v', e = .returned (.tuple #[(.agg #[.bool x.1, .bool x.2.1, .int .u64 (M.nu x.2.2.1.1), .int .u64 (M.nu x.2.2.1.2), .int .u64 (M.nu x.2.2.2.1.1.1), .int .u64 (M.nu x.2.2.2.1.1.2), .int .u64 (M.nu x.2.2.2.1.2.1), .int .u64 (M.nu x.2.2.2.1.2.2), .int .i64 x.2.2.2.2]), v', .int .i64 n]) ∧ w'.ownsRow w.heap.size 39 3 v' L.length (elTm.cells L) ∧ Below w.heap.size w w' := by
  have Xm0 := hidq (((Bx9.new w m).alloc (.cells #[.int .u64 I, .int .u64 J] 46)).alloc (.cells #[.bool false, .bool false, .int .u64 0, .int .u64 0, .int .u64 0, .int .u64 0, .int .u64 0, .int .u64 0, .int .i64 0] 29))
  have Xs0 := hidq ((Bi.new1 w (.cells #[.bool m.1, .bool m.2.1, .int .u64 (M.nu m.2.2.1.1), .int .u64 (M.nu m.2.2.1.2), .int .u64 (M.nu m.2.2.2.1.1.1), .int .u64 (M.nu m.2.2.2.1.1.2), .int .u64 (M.nu m.2.2.2.1.2.1), .int .u64 (M.nu m.2.2.2.1.2.2), .int .i64 m.2.2.2.2] 29) 46 I J).alloc (.cells #[.bool false, .bool false, .int .u64 0, .int .u64 0, .int .u64 0, .int .u64 0, .int .u64 0, .int .u64 0, .int .i64 0] 29))
  have Xz0 := hidq (zbox ((w.alloc (.cells #[.bool m.1, .bool m.2.1, .int .u64 (M.nu m.2.2.1.1), .int .u64 (M.nu m.2.2.1.2), .int .u64 (M.nu m.2.2.2.1.1.1), .int .u64 (M.nu m.2.2.2.1.1.2), .int .u64 (M.nu m.2.2.2.1.2.1), .int .u64 (M.nu m.2.2.2.1.2.2), .int .i64 m.2.2.2.2] 29)).alloc (.cells #[.int .u64 I, .int .u64 J] 46)))
  rw [World.size_alloc, World.size_alloc] at Xz0
  have U0 := hidq ((((u.alloc (.cells #[.bool m.1, .bool m.2.1, .int .u64 (M.nu m.2.2.1.1), .int .u64 (M.nu m.2.2.1.2), .int .u64 (M.nu m.2.2.2.1.1.1), .int .u64 (M.nu m.2.2.2.1.1.2), .int .u64 (M.nu m.2.2.2.1.2.1), .int .u64 (M.nu m.2.2.2.1.2.2), .int .i64 m.2.2.2.2] 29)).alloc (.cells #[.int .u64 I, .int .u64 J] 46))).alloc (.cells #[.bool false, .bool false, .int .u64 0, .int .u64 0, .int .u64 0, .int .u64 0, .int .u64 0, .int .u64 0, .int .i64 0] 29))
  have B0 := hidq (show Below w.heap.size w (((w.alloc (.cells #[.bool m.1, .bool m.2.1, .int .u64 (M.nu m.2.2.1.1), .int .u64 (M.nu m.2.2.1.2), .int .u64 (M.nu m.2.2.2.1.1.1), .int .u64 (M.nu m.2.2.2.1.1.2), .int .u64 (M.nu m.2.2.2.1.2.1), .int .u64 (M.nu m.2.2.2.1.2.2), .int .i64 m.2.2.2.2] 29)).alloc (.cells #[.int .u64 I, .int .u64 J] 46)).alloc (.cells #[.bool false, .bool false, .int .u64 0, .int .u64 0, .int .u64 0, .int .u64 0, .int .u64 0, .int .u64 0, .int .i64 0] 29)) from below_one (below_one (below_one (Below.refl _ _))))
  have cm0 := Xm0.out.cells
  have cs0 := Xs0.out.facts
  clear u
  cases hs : M.subB h I J with
  | false =>
    rw [M.lab_no (fun hh => by rw [hs] at hh; exact absurd hh.1 (by decide))] at hx
    simp only [Prod.mk.injEq] at hx
    obtain ⟨rfl, rfl, rfl⟩ := hx
    have HS := hidq (M.sub_no hs)
    clear hs
    rw [zV_eq]
    go_enter Tryz.func31, Tryz.ntmps31
    go_wp2_with (first | (go_at_call 53; refine (check8_any h I _ _ i0 i1 j0 j1).mono ?_; rw [HS.out]; rintro e w1 ⟨rfl, hb1⟩; have XW := Xz0.out.below hb1; obtain ⟨c0, c1, c2, c3, c4, c5, c6, c7, c8⟩ := XW.cells; obtain ⟨f0, f1, f2, f3, f4, f5, f6, f7, f8⟩ := XW.frozen; have B1 := hidq (below_trans B0.out hb1); clear hb1 XW))
    first | refine bodyPost_ret (v := .tuple #[.agg #[.bool _, .bool _, .int .u64 _, .int .u64 _, .int .u64 _, .int .u64 _, .int .u64 _, .int .u64 _, .int .i64 _], _, .int .i64 _]) (by simp [results, go_sem, c0, c1, c2, c3, c4, c5, c6, c7, c8, Tryz.results31]) rfl ⟨_, rfl, World.ownsRow_nil _ _ _ _, below_set9 B1.out (by omega) _ _ _ _ _ _ _ _ _⟩ | refine bodyPost_ret (v := .tuple #[.agg #[.bool _, .bool _, .int .u64 _, .int .u64 _, .int .u64 _, .int .u64 _, .int .u64 _, .int .u64 _, .int .i64 _], _, .int .i64 _]) (by simp [results, go_sem, c0, c1, c2, c3, c4, c5, c6, c7, c8, Tryz.results31]; exact ⟨rfl, rfl, rfl, rfl, rfl, rfl, rfl, rfl, rfl⟩) rfl ⟨_, rfl, World.ownsRow_nil _ _ _ _, below_set9 B1.out (by omega) _ _ _ _ _ _ _ _ _⟩
  | true =>
    rw [M.lab_byp hs] at hx
    have HS := hidq (M.sub_yes hs)
    have HSB := hidq hs
    have HB := hidq hx
    clear hs hx
    go_enter Tryz.func31, Tryz.ntmps31
    go_upto_region 4 with (first | (go_at_call 53; refine (check8_any h I _ _ i0 i1 j0 j1).mono ?_; rw [HS.out]; rintro e w1 ⟨rfl, hb1⟩; have YM := Xm0.out.below hb1; have YS := Xs0.out.below hb1; have YZ := Xz0.out.below hb1; have U1 := U0.out.below hb1; have B1 := below_trans B0.out hb1; have s1 := hb1.size; rw [World.size_alloc, World.size_alloc, World.size_alloc] at s1; clear hb1))
    have mm := YM.cells
    have ss := YS.facts
    have MD : Hid (Bx9 w1.drew w.heap.size m) := YM
    have SD : Hid (Bi w1.drew (w.heap.size + 1) 46 I J) := YS
    have ZD : Hid (Bx9 w1.drew (w.heap.size + 1 + 1) M.zV) := YZ
    have UD := hidq U1.drew
    have BD := hidq (below_d1 B1)
    have S1 := hidq s1
    have n1 : w.heap.size + 1 + 1 ≠ w.heap.size := by omega
    have n2 : w.heap.size ≠ w.heap.size + 1 + 1 := by omega
    clear YM YS YZ B1 s1 U1 cm0 cs0
    go_region_held3 (fun X => (X.cell? ⟨w.heap.size, 0, none⟩ = some (.bool m.1) ∧ X.cell? ⟨w.heap.size, 1, none⟩ = some (.bool m.2.1) ∧ X.cell? ⟨w.heap.size, 2, none⟩ = some (.int .u64 (M.nu m.2.2.1.1)) ∧ X.cell? ⟨w.heap.size, 3, none⟩ = some (.int .u64 (M.nu m.2.2.1.2)) ∧ X.cell? ⟨w.heap.size, 4, none⟩ = some (.int .u64 (M.nu m.2.2.2.1.1.1)) ∧ X.cell? ⟨w.heap.size, 5, none⟩ = some (.int .u64 (M.nu m.2.2.2.1.1.2)) ∧ X.cell? ⟨w.heap.size, 6, none⟩ = some (.int .u64 (M.nu m.2.2.2.1.2.1)) ∧ X.cell? ⟨w.heap.size, 7, none⟩ = some (.int .u64 (M.nu m.2.2.2.1.2.2)) ∧ X.cell? ⟨w.heap.size, 8, none⟩ = some (.int .i64 m.2.2.2.2)) ∧ X.cell? ⟨w.heap.size + 1, 0, none⟩ = some (.int .u64 I) ∧ X.cell? ⟨w.heap.size + 1, 1, none⟩ = some (.int .u64 J)) (go_keep)
      (first | (go_at_call 51; refine (tolab_eq HSB.out _).mono ?_; rintro r w2 ⟨v2, rfl, o2, hb2⟩; have M2 := hidq (MD.out.below hb2); have m2 := M2.out.cells; have SS2 := hidq (SD.out.below hb2); have s2 := SS2.out.facts; have Z2 := hidq (ZD.out.below hb2); have U2 := hidq (UD.out.below hb2); have I2 := hidq (own_is o2 M.labW_opn); have L2 := hidq (show w.heap.size + 3 ≤ w2.heap.size by have := hb2.size; have := S1.out; simp at *; omega); have B2 := hidq (below_trans BD.out hb2); clear hb2 o2) | (go_at_call 52; refine (lbyp_eq M.labW_opn HB.out _ U2.out I2.out).mono ?_; rintro r w3 ⟨v3, rfl, o3, hb3⟩; have m3 := (M2.out.below hb3).cells; have s3 := (SS2.out.below hb3).facts; have XW := Z2.out.below hb3; obtain ⟨c0, c1, c2, c3, c4, c5, c6, c7, c8⟩ := XW.cells; obtain ⟨f0, f1, f2, f3, f4, f5, f6, f7, f8⟩ := XW.frozen; have O3 := hidq o3; have B3 := hidq (below_trans B2.out hb3); clear hb3 o3 XW))
    all_goals go_wp2
    all_goals refine bodyPost_ret (v := .tuple #[.agg #[.bool _, .bool _, .int .u64 _, .int .u64 _, .int .u64 _, .int .u64 _, .int .u64 _, .int .u64 _, .int .i64 _], _, .int .i64 _]) (by simp [results, go_sem, c0, c1, c2, c3, c4, c5, c6, c7, c8, Tryz.results31]) rfl ⟨_, rfl, own_lowerq (own_set9 O3.out (by have := L2.out; omega) _ _ _ _ _ _ _ _ _) (by have := L2.out; omega), below_set9 B3.out (by omega) _ _ _ _ _ _ _ _ _⟩
theorem M.labW_few {h I J : Int} (hs : M.subB h I J = true) : (M.labW I J).length ≤ 65 := by
  have h1 := M.path_few (a := 1) (M.sub_of hs).1
  by_cases h0 : J = 0
  · subst h0
    rw [M.labW_zero, List.length_append, List.length_singleton]; omega
  · have h2 := M.path_few (a := I) (M.sub_in hs h0).1
    rw [M.labW_more h0, List.length_append, List.length_append, List.length_singleton]; omega
set_option maxRecDepth 100000 in
set_option maxHeartbeats 4000000 in
theorem lkey_eq {A : List M.Tm} {h k : Int} {m : M.Val} {I J : Int} {x : M.Val} {L : List M.Tm} {n : Int} (hx : M.keyA A h k m I J = (x, L, n)) (i0 : 0 ≤ I) (i1 : I ≤ 18446744073709551615) (j0 : 0 ≤ J) (j1 : J ≤ 18446744073709551615) {vl : Value} (w : World) (u : Ts w vl A) :
    Calls Tryz.prog 30 #[vl, .int .i64 h, .int .i64 k, (.agg #[.bool m.1, .bool m.2.1, .int .u64 (M.nu m.2.2.1.1), .int .u64 (M.nu m.2.2.1.2), .int .u64 (M.nu m.2.2.2.1.1.1), .int .u64 (M.nu m.2.2.2.1.1.2), .int .u64 (M.nu m.2.2.2.1.2.1), .int .u64 (M.nu m.2.2.2.1.2.2), .int .i64 m.2.2.2.2]), .agg #[.int .u64 I, .int .u64 J]] w fun e w' => ∃ v', e = .returned (.tuple #[(.agg #[.bool x.1, .bool x.2.1, .int .u64 (M.nu x.2.2.1.1), .int .u64 (M.nu x.2.2.1.2), .int .u64 (M.nu x.2.2.2.1.1.1), .int .u64 (M.nu x.2.2.2.1.1.2), .int .u64 (M.nu x.2.2.2.1.2.1), .int .u64 (M.nu x.2.2.2.1.2.2), .int .i64 x.2.2.2.2]), v', .int .i64 n]) ∧ w'.ownsRow w.heap.size 39 3 v' L.length (elTm.cells L) ∧ Below w.heap.size w w' := by
  have Xm0 := hidq (((Bx9.new w m).alloc (.cells #[.int .u64 I, .int .u64 J] 46)).alloc (.cells #[.bool false, .bool false, .int .u64 0, .int .u64 0, .int .u64 0, .int .u64 0, .int .u64 0, .int .u64 0, .int .i64 0] 29))
  have Xs0 := hidq ((Bi.new1 w (.cells #[.bool m.1, .bool m.2.1, .int .u64 (M.nu m.2.2.1.1), .int .u64 (M.nu m.2.2.1.2), .int .u64 (M.nu m.2.2.2.1.1.1), .int .u64 (M.nu m.2.2.2.1.1.2), .int .u64 (M.nu m.2.2.2.1.2.1), .int .u64 (M.nu m.2.2.2.1.2.2), .int .i64 m.2.2.2.2] 29) 46 I J).alloc (.cells #[.bool false, .bool false, .int .u64 0, .int .u64 0, .int .u64 0, .int .u64 0, .int .u64 0, .int .u64 0, .int .i64 0] 29))
  have Xz0 := hidq (zbox ((w.alloc (.cells #[.bool m.1, .bool m.2.1, .int .u64 (M.nu m.2.2.1.1), .int .u64 (M.nu m.2.2.1.2), .int .u64 (M.nu m.2.2.2.1.1.1), .int .u64 (M.nu m.2.2.2.1.1.2), .int .u64 (M.nu m.2.2.2.1.2.1), .int .u64 (M.nu m.2.2.2.1.2.2), .int .i64 m.2.2.2.2] 29)).alloc (.cells #[.int .u64 I, .int .u64 J] 46)))
  rw [World.size_alloc, World.size_alloc] at Xz0
  have U0 := hidq ((((u.alloc (.cells #[.bool m.1, .bool m.2.1, .int .u64 (M.nu m.2.2.1.1), .int .u64 (M.nu m.2.2.1.2), .int .u64 (M.nu m.2.2.2.1.1.1), .int .u64 (M.nu m.2.2.2.1.1.2), .int .u64 (M.nu m.2.2.2.1.2.1), .int .u64 (M.nu m.2.2.2.1.2.2), .int .i64 m.2.2.2.2] 29)).alloc (.cells #[.int .u64 I, .int .u64 J] 46))).alloc (.cells #[.bool false, .bool false, .int .u64 0, .int .u64 0, .int .u64 0, .int .u64 0, .int .u64 0, .int .u64 0, .int .i64 0] 29))
  have B0 := hidq (show Below w.heap.size w (((w.alloc (.cells #[.bool m.1, .bool m.2.1, .int .u64 (M.nu m.2.2.1.1), .int .u64 (M.nu m.2.2.1.2), .int .u64 (M.nu m.2.2.2.1.1.1), .int .u64 (M.nu m.2.2.2.1.1.2), .int .u64 (M.nu m.2.2.2.1.2.1), .int .u64 (M.nu m.2.2.2.1.2.2), .int .i64 m.2.2.2.2] 29)).alloc (.cells #[.int .u64 I, .int .u64 J] 46)).alloc (.cells #[.bool false, .bool false, .int .u64 0, .int .u64 0, .int .u64 0, .int .u64 0, .int .u64 0, .int .u64 0, .int .i64 0] 29)) from below_one (below_one (below_one (Below.refl _ _))))
  have cm0 := Xm0.out.cells
  have cs0 := Xs0.out.facts
  have US := hidq u
  clear u
  cases hy : M.myV h k I J with
  | false =>
    rw [M.key_no (fun hh => by rw [hy] at hh; exact absurd hh.1 (by decide))] at hx
    simp only [Prod.mk.injEq] at hx
    obtain ⟨rfl, rfl, rfl⟩ := hx
    rw [zV_eq]
    have HM1 := hidq hy
    obtain ⟨q, hq⟩ : ∃ q, M.myE h k I J = q := ⟨_, rfl⟩
    have HM2 := hidq hq
    clear hy hq US
    by_cases h0 : q = 0
    · subst h0
      go_enter Tryz.func30, Tryz.ntmps30
      go_wp2_with (first | (go_at_call 49; refine (lmay_any h _ I J _ i0 i1 j0 j1).mono ?_; rw [HM1.out, HM2.out]; rintro e w1 ⟨rfl, hb1⟩; have XW := Xz0.out.below hb1; obtain ⟨c0, c1, c2, c3, c4, c5, c6, c7, c8⟩ := XW.cells; obtain ⟨f0, f1, f2, f3, f4, f5, f6, f7, f8⟩ := XW.frozen; have B1 := hidq (below_trans B0.out hb1); clear hb1 XW))
      first | refine bodyPost_ret (v := .tuple #[.agg #[.bool _, .bool _, .int .u64 _, .int .u64 _, .int .u64 _, .int .u64 _, .int .u64 _, .int .u64 _, .int .i64 _], _, .int .i64 _]) (by simp [results, go_sem, c0, c1, c2, c3, c4, c5, c6, c7, c8, Tryz.results30]) rfl ⟨_, rfl, World.ownsRow_nil _ _ _ _, below_set9 B1.out (by omega) _ _ _ _ _ _ _ _ _⟩ | refine bodyPost_ret (v := .tuple #[.agg #[.bool _, .bool _, .int .u64 _, .int .u64 _, .int .u64 _, .int .u64 _, .int .u64 _, .int .u64 _, .int .i64 _], _, .int .i64 _]) (by simp [results, go_sem, c0, c1, c2, c3, c4, c5, c6, c7, c8, Tryz.results30]; exact ⟨rfl, rfl, rfl, rfl, rfl, rfl, rfl, rfl, rfl⟩) rfl ⟨_, rfl, World.ownsRow_nil _ _ _ _, below_set9 B1.out (by omega) _ _ _ _ _ _ _ _ _⟩
    · have hnb : (q == 0) = false := beq_eq_false_iff_ne.2 h0
      have hnc : (q != 0) = true := by simpa using h0
      go_enter Tryz.func30, Tryz.ntmps30
      go_wp2_with (first | (go_at_call 49; refine (lmay_any h _ I J _ i0 i1 j0 j1).mono ?_; rw [HM1.out, HM2.out]; rintro e w1 ⟨rfl, hb1⟩; have XW := Xz0.out.below hb1; obtain ⟨c0, c1, c2, c3, c4, c5, c6, c7, c8⟩ := XW.cells; obtain ⟨f0, f1, f2, f3, f4, f5, f6, f7, f8⟩ := XW.frozen; have B1 := hidq (below_trans B0.out hb1); clear hb1 XW))
      first | refine bodyPost_ret (v := .tuple #[.agg #[.bool _, .bool _, .int .u64 _, .int .u64 _, .int .u64 _, .int .u64 _, .int .u64 _, .int .u64 _, .int .i64 _], _, .int .i64 _]) (by simp [results, go_sem, c0, c1, c2, c3, c4, c5, c6, c7, c8, Tryz.results30]) rfl ⟨_, rfl, World.ownsRow_nil _ _ _ _, below_set9 B1.out (by omega) _ _ _ _ _ _ _ _ _⟩ | refine bodyPost_ret (v := .tuple #[.agg #[.bool _, .bool _, .int .u64 _, .int .u64 _, .int .u64 _, .int .u64 _, .int .u64 _, .int .u64 _, .int .i64 _], _, .int .i64 _]) (by simp [results, go_sem, c0, c1, c2, c3, c4, c5, c6, c7, c8, Tryz.results30]; exact ⟨rfl, rfl, rfl, rfl, rfl, rfl, rfl, rfl, rfl⟩) rfl ⟨_, rfl, World.ownsRow_nil _ _ _ _, below_set9 B1.out (by omega) _ _ _ _ _ _ _ _ _⟩
  | true =>
    rw [M.key_byp hy] at hx
    have HM1 := hidq hy
    have HM2 := hidq (M.my_parts hy).2.2
    have HSB := hidq (M.my_parts hy).2.1
    clear hy
    by_cases hk : k = 1
    · subst hk
      rw [M.keyW_one] at hx
      have HB := hidq hx
      clear hx US
      go_enter Tryz.func30, Tryz.ntmps30
      go_wp2_with (first | (go_at_call 49; refine (lmay_any h _ I J _ i0 i1 j0 j1).mono ?_; rw [HM1.out, HM2.out]; rintro e w1 ⟨rfl, hb1⟩; clear cm0 cs0; have XM := Xm0.out.below hb1; have XS := Xs0.out.below hb1; have cs1 := XS.facts; have M1 := hidq XM; have S1 := hidq XS; have Z1 := hidq (Xz0.out.below hb1); have U1 := hidq (U0.out.below hb1); have L1 := hidq (show w.heap.size + 3 ≤ w1.heap.size by have := hb1.size; simpa using this); have B1 := hidq (below_trans B0.out hb1); clear hb1 XM XS) | (go_at_call 51; refine (tolab_eq HSB.out _).mono ?_; rintro e w2 ⟨v2, rfl, o2, hb2⟩; clear cs1; have XV := M1.out.below hb2; obtain ⟨d0, d1, d2, d3, d4, d5, d6, d7, d8⟩ := XV.cells; have I2 := hidq (own_is o2 M.labW_opn); have Z2 := hidq (Z1.out.below hb2); have U2 := hidq (U1.out.below hb2); have O2 := hidq (own_lowerq o2 L1.out); have L2 := hidq (show w.heap.size + 3 ≤ w2.heap.size by have := hb2.size; have := L1.out; omega); have B2 := hidq (below_trans B1.out hb2); clear hb2 o2 XV) | (go_at_call 52; refine (lbyp_eq M.labW_opn HB.out _ U2.out I2.out).mono ?_; rintro e w3 ⟨v3, rfl, o3, hb3⟩; have XW := Z2.out.below hb3; obtain ⟨c0, c1, c2, c3, c4, c5, c6, c7, c8⟩ := XW.cells; obtain ⟨f0, f1, f2, f3, f4, f5, f6, f7, f8⟩ := XW.frozen; have O3 := hidq o3; have B3 := hidq (below_trans B2.out hb3); clear hb3 o3 XW))
      refine bodyPost_ret (v := .tuple #[.agg #[.bool _, .bool _, .int .u64 _, .int .u64 _, .int .u64 _, .int .u64 _, .int .u64 _, .int .u64 _, .int .i64 _], _, .int .i64 _]) (by simp [results, go_sem, c0, c1, c2, c3, c4, c5, c6, c7, c8, Tryz.results30]) rfl ⟨_, rfl, own_lowerq (own_set9 O3.out (by have := L2.out; omega) _ _ _ _ _ _ _ _ _) (by have := L2.out; omega), below_set9 B3.out (by omega) _ _ _ _ _ _ _ _ _⟩
    · have hkb : (k == 1) = false := beq_eq_false_iff_ne.2 hk
      have hkc : (k != 1) = true := by simpa using hk
      have OP3 := hidq (show M.Opn3 (M.labW I J ++ [2]) from M.keyW_more hk ▸ M.keyW_opn)
      rw [M.keyW_more hk] at hx
      have HB := hidq hx
      have HF := hidq (M.labW_few HSB.out)
      clear hx hk
      go_enter Tryz.func30, Tryz.ntmps30
      go_wp2_with (first | (go_at_call 49; refine (lmay_any h _ I J _ i0 i1 j0 j1).mono ?_; rw [HM1.out, HM2.out]; rintro e w1 ⟨rfl, hb1⟩; clear cm0 cs0; have XM := Xm0.out.below hb1; have XS := Xs0.out.below hb1; have cs1 := XS.facts; have M1 := hidq XM; have S1 := hidq XS; have Z1 := hidq (Xz0.out.below hb1); have U1 := hidq (U0.out.below hb1); have L1 := hidq (show w.heap.size + 3 ≤ w1.heap.size by have := hb1.size; simpa using this); have B1 := hidq (below_trans B0.out hb1); clear hb1 XM XS) | (go_at_call 51; refine (tolab_eq HSB.out _).mono ?_; rintro e w2 ⟨v2, rfl, o2, hb2⟩; clear cs1; have XV := M1.out.below hb2; have M2 := hidq XV; obtain ⟨a2, p2, rfl, -⟩ := own_formq o2; have Z2 := hidq (Z1.out.below hb2); have U2 := hidq (U1.out.below hb2); have O2 := hidq (own_lowerq o2 L1.out); have L2 := hidq (show w.heap.size + 3 ≤ w2.heap.size by have := hb2.size; have := L1.out; omega); have B2 := hidq (below_trans B1.out hb2); clear hb2 o2 XV) | (at_builtin; refine wpList_append_sl (E := elInt) rfl _ _ rfl (w.heap.size + 3) _ (M.labW I J).length (M.labW I J) rfl (own_keptq O2.out (below_one (o := (.cells #[.int .i64 2] 3)) (Below.refl w2.heap.size w2))) _ [2] rfl (Is.oneg w2 2 _ (by first | rfl | simp) ⟨by decide, by decide⟩) (by have := HF.out; simp only [List.length_cons, List.length_nil]; omega) (by have := L2.out; simp; omega) ?_; intro v3 w3 hown3 hgrow3; obtain ⟨a3, p3, rfl, -⟩ := own_formq hown3; have H3 := ((Below.refl (w.heap.size + 3) (w2.alloc (.cells #[.int .i64 2] 3))).grown hgrow3 (by have := L2.out; simp; omega) (fun q hq => (O2.out.lt q hq).1)); have XV : Bx9 w3 w.heap.size m := (H3.block w.heap.size (by omega)).trans (M2.out.alloc (.cells #[.int .i64 2] 3)); obtain ⟨d0, d1, d2, d3, d4, d5, d6, d7, d8⟩ := XV.cells; have Z3 : Hid (Bx9 w3 (w.heap.size + 1 + 1) M.zV) := (H3.block (w.heap.size + 1 + 1) (by omega)).trans (Z2.out.alloc (.cells #[.int .i64 2] 3)); have B3 := hidq ((below_one (o := (.cells #[.int .i64 2] 3)) B2.out).grown hgrow3 (by have := L2.out; simp; omega) (fun q hq => by have := (O2.out.lt q hq).1; omega)); have U3 := hidq (US.out.below B3.out); have I3 := hidq (show Is w3 (.slice a3 ((M.labW I J).length + 1) p3) (M.labW I J ++ [2]) from own_is (own_more hown3) OP3.out); have L3 := hidq (show w.heap.size + 3 ≤ w3.heap.size from Z3.out.lt); clear hown3 hgrow3 H3 XV) | (go_at_call 52; refine (lbyp_eq OP3.out HB.out _ U3.out I3.out).mono ?_; rintro e w4 ⟨v4, rfl, o4, hb4⟩; have XW := Z3.out.below hb4; obtain ⟨c0, c1, c2, c3, c4, c5, c6, c7, c8⟩ := XW.cells; obtain ⟨f0, f1, f2, f3, f4, f5, f6, f7, f8⟩ := XW.frozen; have O4 := hidq o4; have B4 := hidq (below_trans B3.out hb4); clear hb4 o4 XW))
      refine bodyPost_ret (v := .tuple #[.agg #[.bool _, .bool _, .int .u64 _, .int .u64 _, .int .u64 _, .int .u64 _, .int .u64 _, .int .u64 _, .int .i64 _], _, .int .i64 _]) (by simp [results, go_sem, c0, c1, c2, c3, c4, c5, c6, c7, c8, Tryz.results30]) rfl ⟨_, rfl, own_lowerq (own_set9 O4.out (by have := L3.out; omega) _ _ _ _ _ _ _ _ _) (by have := L3.out; omega), below_set9 B4.out (by omega) _ _ _ _ _ _ _ _ _⟩
end Go.Proofs.YthmiekinjfaflaaGreat
