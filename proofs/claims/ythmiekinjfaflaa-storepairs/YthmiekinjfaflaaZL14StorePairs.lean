/-
  The law StorePairs returns true at every input: any leaf's pairs, and how many they are, or why not, are the document's own answer. Conditions: the numbers fit their kinds.
-/
import Derived.Test.YthmiekinjfaflaaZSQ2
namespace Go.Proofs.Ythmiekinjfaflaa
open Go.RowKit
set_option maxRecDepth 100000 in
set_option maxHeartbeats 4000000 in
theorem storePairs_walk (h k i : Int) (w : World) (_ : -9223372036854775808 ≤ h) (_ : h ≤ 9223372036854775807) (_ : -9223372036854775808 ≤ k) (_ : k ≤ 9223372036854775807) (h0 : 0 ≤ i) (h1 : i ≤ 18446744073709551615) :
    Calls Try.prog 3 #[.int .i64 h, .int .i64 k, .int .u64 i] w fun e w' => e = .returned (.bool true) ∧ Below w.heap.size w w' := by
  have SP := hidq (fun W => spairs_any h k i W h0 h1)
  have RP := hidq (fun W => rspairs_any h k i W h0 h1)
  have SM := hidq (fun W => smany_any h k W)
  have RM := hidq (fun W => rsmany_any h k W)
  have hB0 : Below w.heap.size w w := Below.refl _ _
  generalize M.prsL h k i = C at *
  generalize M.prsE h k i = E at *
  generalize M.pmV h k = n at *
  generalize M.pmE h k = F at *
  have T1 := hidq trivial
  have T2 := hidq trivial
  have T3 := hidq trivial
  have T4 := hidq trivial
  have T5 := hidq trivial
  have T6 := hidq trivial
  go_enter Try.func3, Try.ntmps3
  go_wp2_with (first | (go_at_call 8; clear T1; refine (live14_any _).mono ?_; rintro e w1 ⟨rfl, hb1⟩; have hB1 := below_trans hB0 hb1) | (go_at_call 9; clear T2; refine (SP.out _).mono ?_; rintro e w2 ⟨x, rfl, u, hb2⟩; have A2 := (u); have hB2 := below_trans hB1 hb2; obtain ⟨aA2, cA2, rfl, -⟩ := A2.form) | (go_at_call 10; clear T3; refine (RP.out _).mono ?_; rintro e w3 ⟨y, rfl, u, hb3⟩; have A3 := (A2.below hb3); clear A2; have Y3 := (u); have hB3 := below_trans hB2 hb3; obtain ⟨aY3, cY3, rfl, -⟩ := Y3.form) | (go_at_call 11; clear T4; refine (SM.out _).mono ?_; rintro e w4 ⟨rfl, hb4⟩; have A4 := (A3.below hb4); clear A3; have Y4 := (Y3.below hb4); clear Y3; have hB4 := below_trans hB3 hb4) | (go_at_call 12; clear T5; refine (RM.out _).mono ?_; rintro e w5 ⟨rfl, hb5⟩; have A5 := (A4.below hb5); clear A4; have Y5 := (Y4.below hb5); clear Y4; have hB5 := below_trans hB4 hb5) | (go_at_call 13; clear T6; refine (rsameS_yes C _ _ _ A5 Y5).mono ?_; rintro e w6 ⟨rfl, hb6⟩; have A6 := (A5.below hb6); clear A5; have Y6 := (Y5.below hb6); clear Y5; have hB6 := below_trans hB5 hb6))
  go_ret
  exact ⟨rfl, hB6⟩
end Go.Proofs.Ythmiekinjfaflaa
