/-
  The law DiffDoes returns true at every input: any cover, and any bound, or why not, as the document has it. Conditions: the slice holds numbers, the numbers fit their kinds.
-/
import Derived.Test.YtjaikcnfepbpgaaZA10
import Derived.Test.YtjaikcnfepbpgaaZFU
import Derived.Test.YtjaikcnfepbpgaaZJ5
import Derived.Test.YtjaikcnfepbpgaaZTR
namespace Go.Proofs.Ytjaikcnfepbpgaa
open Go.RowKit
set_option maxRecDepth 100000 in
set_option maxHeartbeats 4000000 in
theorem diffDoes_long (h : Int) (L : List Int) (v : Value) (many : Int) (w : World) (hu : Us w v L) (hl : ¬ L.length ≤ 30) :
    Calls Try.prog 3 #[.int .i64 h, v, .int .i64 many] w fun e w' => e = .returned (.bool true) ∧ Below w.heap.size w w' := by
  obtain ⟨ao, cap, rfl, -⟩ := us_view hu
  have hB0 := Below.refl w.heap.size w
  have hli : (30 : Int) < L.length := by omega
  clear hl hu
  have T1 := hidq trivial
  go_enter Try.func3, Try.ntmps3
  go_wp2_with (first | (go_at_call 8; clear T1; refine (live11_any _).mono ?_; rintro e w1 ⟨rfl, hb1⟩; have hB1 := below_trans hB0 hb1))
  go_ret
  exact ⟨rfl, hB1⟩
set_option maxRecDepth 100000 in
set_option maxHeartbeats 4000000 in
theorem diffDoes_in (h : Int) (L : List Int) (v : Value) (many : Int) (w : World) (hu : Us w v L) (m0 : -9223372036854775808 ≤ many) (m1 : many ≤ 9223372036854775807) (hl : L.length ≤ 30) :
    Calls Try.prog 3 #[.int .i64 h, v, .int .i64 many] w fun e w' => e = .returned (.bool true) ∧ Below w.heap.size w w' := by
  obtain ⟨ao, cap, rfl, -⟩ := us_view hu
  have hB0 := Below.refl w.heap.size w
  have U0 := hu
  have hli : ¬ (30 : Int) < L.length := by omega
  have CC := hidq (fun W v (u : Us W v L) => dcover_any h L v W u)
  have DC := hidq (fun W v (u : Us W v L) => rdcover_any h L v W u)
  generalize M.dfL h L = C at *
  generalize M.setE h L = E at *
  generalize hbV : M.dbV h many = bV
  generalize hbE : M.bdE h many = bE
  clear hu hl
  have T1 := hidq trivial
  have T2 := hidq trivial
  have T3 := hidq trivial
  have T4 := hidq trivial
  have T5 := hidq trivial
  have T6 := hidq trivial
  go_enter Try.func3, Try.ntmps3
  go_wp2_with (first | (go_at_call 8; clear T1; refine (live11_any _).mono ?_; rintro e w1 ⟨rfl, hb1⟩; have U1 := (U0.below hb1); clear U0; have hB1 := below_trans hB0 hb1) | (go_at_call 9; clear T2; refine (CC.out _ _ U1).mono ?_; rintro e w2 ⟨x, rfl, u, hb2⟩; have U2 := (U1.below hb2); clear U1; have X2 := (u); have hB2 := below_trans hB1 hb2; obtain ⟨aX2, cX2, rfl, -⟩ := X2.form) | (go_at_call 10; clear T3; refine (DC.out _ _ U2).mono ?_; rintro e w3 ⟨y, rfl, u, hb3⟩; have U3 := (U2.below hb3); clear U2; have X3 := (X2.below hb3); clear X2; have Y3 := (u); have hB3 := below_trans hB2 hb3; obtain ⟨aY3, cY3, rfl, -⟩ := Y3.form) | (go_at_call 11; clear T4; refine (dbound_any h many _ m0 m1).mono ?_; rintro e w4 ⟨rfl, hb4⟩; have U4 := (U3.below hb4); clear U3; have X4 := (X3.below hb4); clear X3; have Y4 := (Y3.below hb4); clear Y3; have hB4 := below_trans hB3 hb4) | (go_at_call 12; clear T5; refine (rdbound_any h many _ m0 m1).mono ?_; rintro e w5 ⟨rfl, hb5⟩; have U5 := (U4.below hb5); clear U4; have X5 := (X4.below hb5); clear X4; have Y5 := (Y4.below hb5); clear Y4; have hB5 := below_trans hB4 hb5) | (go_at_call 13; clear T6; refine (rsameS_yes C _ _ _ X5 Y5).mono ?_; rintro e w6 ⟨rfl, hb6⟩; have U6 := (U5.below hb6); clear U5; have X6 := (X5.below hb6); clear X5; have Y6 := (Y5.below hb6); clear Y5; have hB6 := below_trans hB5 hb6))
  go_ret
  exact ⟨rfl, hB6⟩
set_option maxRecDepth 100000 in
theorem diffDoes_walk (h : Int) (L : List Int) (v : Value) (many : Int) (w : World) (_ : -9223372036854775808 ≤ h) (_ : h ≤ 9223372036854775807) (hu : Us w v L) (m0 : -9223372036854775808 ≤ many) (m1 : many ≤ 9223372036854775807) :
    Calls Try.prog 3 #[.int .i64 h, v, .int .i64 many] w fun e w' => e = .returned (.bool true) ∧ Below w.heap.size w w' := by
  by_cases hl : L.length ≤ 30
  · exact diffDoes_in h L v many w hu m0 m1 hl
  · exact diffDoes_long h L v many w hu hl
end Go.Proofs.Ytjaikcnfepbpgaa
