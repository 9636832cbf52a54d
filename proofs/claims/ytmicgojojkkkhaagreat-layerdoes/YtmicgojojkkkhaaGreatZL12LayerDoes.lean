/-
  The law LayerDoes returns true at every input: any cover by any scheme, any bound, whether any subset may be of any scheme, and how many are beside the way to a leaf, or why not, is the document's own answer. Conditions: the numbers fit their kinds.
-/
import Derived.Test.YtmicgojojkkkhaaGreatZTR
import Derived.Test.YtmicgojojkkkhaaGreatZX3
import Derived.Test.YtmicgojojkkkhaaGreatZX5
import Derived.Test.YtmicgojojkkkhaaGreatZX6
import Derived.Test.YtmicgojojkkkhaaGreatZXD1
namespace Go.Proofs.YtmicgojojkkkhaaGreat
open Go.RowKit
set_option maxRecDepth 100000 in
set_option maxHeartbeats 4000000 in
theorem layerDoes_long (h k : Int) (L : List Int) (v : Value) (many I J : Int) (w : World) (hu : Us w v L) (hl : ¬ L.length ≤ 30) :
    Calls Tryz.prog 3 #[.int .i64 h, .int .i64 k, v, .int .i64 many, .agg #[.int .u64 I, .int .u64 J]] w fun e w' => e = .returned (.bool true) ∧ Below w.heap.size w w' := by
  obtain ⟨ao, cap, rfl, -⟩ := us_view hu
  have HA := hidq (fun o => (Below.refl _ w).alloc (Nat.le_refl w.heap.size) o)
  have X0 := Bi.new w 25 I J
  obtain ⟨X0a, X0b⟩ := X0.facts
  have hB0 : Below w.heap.size w (w.alloc (.cells #[.int .u64 I, .int .u64 J] 25)) := HA.out _
  clear HA
  have U0 := hu.alloc (.cells #[.int .u64 I, .int .u64 J] 25)
  have hli : (30 : Int) < L.length := by omega
  clear hl hu
  have T1 := hidq trivial
  go_enter Tryz.func3, Tryz.ntmps3
  go_wp2_with (first | (go_at_call 4; clear T1; refine (live12_any _).mono ?_; rintro e w1 ⟨rfl, hb1⟩; have X1 := (X0.below hb1); obtain ⟨X1a, X1b⟩ := X1.facts; clear X0 X0a X0b; have U1 := (U0.below hb1); clear U0; have hB1 := below_trans hB0 hb1))
  go_ret
  exact ⟨rfl, hB1⟩
set_option maxRecDepth 100000 in
set_option maxHeartbeats 4000000 in
theorem layerDoes_in (h k : Int) (L : List Int) (v : Value) (many I J : Int) (w : World) (hu : Us w v L) (m0 : -9223372036854775808 ≤ many) (m1 : many ≤ 9223372036854775807) (h0 : 0 ≤ I) (h1 : I ≤ 18446744073709551615) (h2 : 0 ≤ J) (h3 : J ≤ 18446744073709551615) (hl : L.length ≤ 30) :
    Calls Tryz.prog 3 #[.int .i64 h, .int .i64 k, v, .int .i64 many, .agg #[.int .u64 I, .int .u64 J]] w fun e w' => e = .returned (.bool true) ∧ Below w.heap.size w w' := by
  obtain ⟨ao, cap, rfl, -⟩ := us_view hu
  have HA := hidq (fun o => (Below.refl _ w).alloc (Nat.le_refl w.heap.size) o)
  have X0 := Bi.new w 25 I J
  obtain ⟨X0a, X0b⟩ := X0.facts
  have hB0 : Below w.heap.size w (w.alloc (.cells #[.int .u64 I, .int .u64 J] 25)) := HA.out _
  clear HA
  have U0 := hu.alloc (.cells #[.int .u64 I, .int .u64 J] 25)
  have hli : ¬ (30 : Int) < L.length := by omega
  have CC := hidq (fun W v (u : Us W v L) => lcover_any h k L v W u)
  have DC := hidq (fun W v (u : Us W v L) => rlcover_any h k L v W u)
  generalize M.lyL h k L = C at *
  generalize M.lyE h k L = E at *
  generalize hq1 : M.lbV h k many = q1
  generalize hq2 : M.lbE h k many = q2
  generalize hq3 : M.myV h k I J = q3
  generalize hq4 : M.myE h k I J = q4
  generalize hq5 : M.prV h = q5
  generalize hq6 : M.prE h = q6
  clear hu hl
  have T1 := hidq trivial
  have T2 := hidq trivial
  have T3 := hidq trivial
  have T4 := hidq trivial
  have T5 := hidq trivial
  have T6 := hidq trivial
  have T7 := hidq trivial
  have T8 := hidq trivial
  have T9 := hidq trivial
  have T10 := hidq trivial
  go_enter Tryz.func3, Tryz.ntmps3
  go_wp2_with (first | (go_at_call 4; clear T1; refine (live12_any _).mono ?_; rintro e w1 ⟨rfl, hb1⟩; have X1 := (X0.below hb1); obtain ⟨X1a, X1b⟩ := X1.facts; clear X0 X0a X0b; have U1 := (U0.below hb1); clear U0; have hB1 := below_trans hB0 hb1) | (go_at_call 5; clear T2; refine (CC.out _ _ U1).mono ?_; rintro e w2 ⟨x, rfl, u, hb2⟩; have X2 := (X1.below hb2); obtain ⟨X2a, X2b⟩ := X2.facts; clear X1 X1a X1b; have U2 := (U1.below hb2); clear U1; have A2 := (u); have hB2 := below_trans hB1 hb2; obtain ⟨aA2, cA2, rfl, -⟩ := A2.form) | (go_at_call 6; clear T3; refine (DC.out _ _ U2).mono ?_; rintro e w3 ⟨y, rfl, u, hb3⟩; have X3 := (X2.below hb3); obtain ⟨X3a, X3b⟩ := X3.facts; clear X2 X2a X2b; have U3 := (U2.below hb3); clear U2; have A3 := (A2.below hb3); clear A2; have Y3 := (u); have hB3 := below_trans hB2 hb3; obtain ⟨aY3, cY3, rfl, -⟩ := Y3.form) | (go_at_call 7; clear T4; refine (lbound_any h k many _ m0 m1).mono ?_; rintro e w4 ⟨rfl, hb4⟩; have X4 := (X3.below hb4); obtain ⟨X4a, X4b⟩ := X4.facts; clear X3 X3a X3b; have U4 := (U3.below hb4); clear U3; have A4 := (A3.below hb4); clear A3; have Y4 := (Y3.below hb4); clear Y3; have hB4 := below_trans hB3 hb4) | (go_at_call 8; clear T5; refine (rlbound_any h k many _ m0 m1).mono ?_; rintro e w5 ⟨rfl, hb5⟩; have X5 := (X4.below hb5); obtain ⟨X5a, X5b⟩ := X5.facts; clear X4 X4a X4b; have U5 := (U4.below hb5); clear U4; have A5 := (A4.below hb5); clear A4; have Y5 := (Y4.below hb5); clear Y4; have hB5 := below_trans hB4 hb5) | (go_at_call 9; clear T6; refine (lmay_any h k I J _ h0 h1 h2 h3).mono ?_; rintro e w6 ⟨rfl, hb6⟩; have X6 := (X5.below hb6); obtain ⟨X6a, X6b⟩ := X6.facts; clear X5 X5a X5b; have U6 := (U5.below hb6); clear U5; have A6 := (A5.below hb6); clear A5; have Y6 := (Y5.below hb6); clear Y5; have hB6 := below_trans hB5 hb6) | (go_at_call 10; clear T7; refine (rlmay_any h k I J _ h0 h1 h2 h3).mono ?_; rintro e w7 ⟨rfl, hb7⟩; have X7 := (X6.below hb7); obtain ⟨X7a, X7b⟩ := X7.facts; clear X6 X6a X6b; have U7 := (U6.below hb7); clear U6; have A7 := (A6.below hb7); clear A6; have Y7 := (Y6.below hb7); clear Y6; have hB7 := below_trans hB6 hb7) | (go_at_call 11; clear T8; refine (lpairs_any h _).mono ?_; rintro e w8 ⟨rfl, hb8⟩; have X8 := (X7.below hb8); obtain ⟨X8a, X8b⟩ := X8.facts; clear X7 X7a X7b; have U8 := (U7.below hb8); clear U7; have A8 := (A7.below hb8); clear A7; have Y8 := (Y7.below hb8); clear Y7; have hB8 := below_trans hB7 hb8) | (go_at_call 12; clear T9; refine (rlpairs_any h _).mono ?_; rintro e w9 ⟨rfl, hb9⟩; have X9 := (X8.below hb9); obtain ⟨X9a, X9b⟩ := X9.facts; clear X8 X8a X8b; have U9 := (U8.below hb9); clear U8; have A9 := (A8.below hb9); clear A8; have Y9 := (Y8.below hb9); clear Y8; have hB9 := below_trans hB8 hb9) | (go_at_call 13; clear T10; refine (rsameS_yes C _ _ _ A9 Y9).mono ?_; rintro e w10 ⟨rfl, hb10⟩; have X10 := (X9.below hb10); obtain ⟨X10a, X10b⟩ := X10.facts; clear X9 X9a X9b; have U10 := (U9.below hb10); clear U9; have A10 := (A9.below hb10); clear A9; have Y10 := (Y9.below hb10); clear Y9; have hB10 := below_trans hB9 hb10))
  go_ret
  exact ⟨rfl, hB10⟩
set_option maxRecDepth 100000 in
theorem layerDoes_walkq (h k : Int) (L : List Int) (v : Value) (many I J : Int) (w : World) (_ : -9223372036854775808 ≤ h) (_ : h ≤ 9223372036854775807) (_ : -9223372036854775808 ≤ k) (_ : k ≤ 9223372036854775807) (hu : Us w v L) (m0 : -9223372036854775808 ≤ many) (m1 : many ≤ 9223372036854775807) (h0 : 0 ≤ I) (h1 : I ≤ 18446744073709551615) (h2 : 0 ≤ J) (h3 : J ≤ 18446744073709551615) :
    Calls Tryz.prog 3 #[.int .i64 h, .int .i64 k, v, .int .i64 many, .agg #[.int .u64 I, .int .u64 J]] w fun e w' => e = .returned (.bool true) ∧ Below w.heap.size w w' := by
  by_cases hl : L.length ≤ 30
  · exact layerDoes_in h k L v many I J w hu m0 m1 h0 h1 h2 h3 hl
  · exact layerDoes_long h k L v many I J w hu hl
set_option maxRecDepth 100000 in
theorem layerDoes_walk (h k : Int) (L : List Int) (v : Value) (many : Int) (s : Int × Int) (w : World) (a0 : -9223372036854775808 ≤ h) (a1 : h ≤ 9223372036854775807) (b0 : -9223372036854775808 ≤ k) (b1 : k ≤ 9223372036854775807) (hu : Us w v L) (m0 : -9223372036854775808 ≤ many) (m1 : many ≤ 9223372036854775807) (hs : M.fitS s) :
    Calls Tryz.prog 3 #[.int .i64 h, .int .i64 k, v, .int .i64 many, .agg #[.int .u64 s.1, .int .u64 s.2]] w fun e w' => e = .returned (.bool true) ∧ Below w.heap.size w w' :=
  layerDoes_walkq h k L v many s.1 s.2 w a0 a1 b0 b1 hu m0 m1 hs.1.1 hs.1.2 hs.2.1 hs.2.2
end Go.Proofs.YtmicgojojkkkhaaGreat
