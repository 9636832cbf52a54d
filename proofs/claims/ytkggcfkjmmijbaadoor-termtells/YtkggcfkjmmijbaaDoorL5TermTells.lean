/-
  The law TermTells: any term's text, how deep it is, and all that it is made of, or why not. Conditions: the slice holds terms; the tables read as the row says.
-/
import Derived.Test.YtkggcfkjmmijbaaDoorT11
namespace Go.Proofs.YtkggcfkjmmijbaaDoor
open Go.RowKit
set_option maxRecDepth 100000 in
set_option maxHeartbeats 4000000 in
theorem termTells_walk (A : List M.Tm) (v : Value) (i : Int) (w : World) (hT : Tab w) (u : Ts w v A) (_ : -9223372036854775808 ≤ i) (_ : i ≤ 9223372036854775807) :
    Calls Tryd.prog 4 #[v, .int .i64 i] w fun e w' => e = .returned (.bool true) ∧ Below w.heap.size w w' := by
  obtain ⟨ao, cap, rfl, q1, q2, q4⟩ := u.form
  have U := hidq (fun X (hb : Below w.heap.size w X) => u.below hb)
  have HT := hidq hT
  clear u hT q4
  by_cases hl : A.length ≤ 60
  · obtain ⟨T, h1⟩ : ∃ T, M.textV A i = T := ⟨_, rfl⟩
    obtain ⟨e, h2⟩ : ∃ e, M.textE A i = e := ⟨_, rfl⟩
    obtain ⟨d, h3⟩ : ∃ d, M.dpV A i = d := ⟨_, rfl⟩
    obtain ⟨g, h4⟩ : ∃ g, M.deepE A i = g := ⟨_, rfl⟩
    obtain ⟨L, h5⟩ : ∃ L, M.withinL A i = L := ⟨_, rfl⟩
    have X6 := hidq (h5 ▸ within_fit A i)
    have X1 := hidq h1
    have X2 := hidq h2
    have X3 := hidq h3
    have X4 := hidq h4
    have X5 := hidq h5
    clear h1 h2 h3 h4 h5
    generalize A.length = n at *
    go_enter Tryd.func4, Tryd.ntmps4
    go_wp2_with (first | (go_at_call 8; refine (live5_any _ HT.out).mono ?_; rintro r w1 ⟨rfl, hb1⟩; have B1 := hidq hb1; have T1 := hidq (HT.out.below hb1); clear hb1) | (go_at_call 17; refine (text_eq X1.out X2.out _ T1.out (U.out _ B1.out)).mono ?_; rintro r w2 ⟨rfl, hb2⟩; have B2 := hidq (below_trans B1.out hb2); clear hb2) | (go_at_call 18; refine (rtext_eq X1.out X2.out _ (U.out _ B2.out)).mono ?_; rintro r w3 ⟨rfl, hb3⟩; have B3 := hidq (below_trans B2.out hb3); clear hb3) | (go_at_call 19; refine (deep_eq X3.out X4.out _ (U.out _ B3.out)).mono ?_; rintro r w4 ⟨rfl, hb4⟩; have B4 := hidq (below_trans B3.out hb4); clear hb4) | (go_at_call 20; refine (rdeep_eq X3.out X4.out _ (U.out _ B4.out)).mono ?_; rintro r w5 ⟨rfl, hb5⟩; have B5 := hidq (below_trans B4.out hb5); clear hb5) | (go_at_call 21; refine (within_eq X5.out X4.out _ (U.out _ B5.out)).mono ?_; rintro r w6 ⟨v6, rfl, ho6, hb6⟩; have B6 := hidq (below_trans B5.out hb6); have O6 := hidq (Sl.of_own (E := elInt) ho6 X6.out); clear hb6 ho6) | (go_at_call 22; refine (rwithin_eq X5.out X4.out _ (U.out _ B6.out)).mono ?_; rintro r w7 ⟨v7, rfl, ho7, hb7⟩; have B7 := hidq (below_trans B6.out hb7); have O7 := hidq (Sl.of_own (E := elInt) ho7 X6.out); have P7 := hidq (O6.out.below hb7); clear hb7 ho7) | (go_at_call 23; refine (sameInts_eq (decide_eq_true rfl) _ P7.out O7.out).mono ?_; rintro r w8 ⟨rfl, hb8⟩; have B8 := hidq (below_trans B7.out hb8); clear hb8))
    go_ret
    exact ⟨rfl, B8.out⟩
  · generalize A.length = n at *
    go_enter Tryd.func4, Tryd.ntmps4
    go_wp2_with (first | (go_at_call 8; refine (live5_any _ HT.out).mono ?_; rintro r w1 ⟨rfl, hb1⟩; have B1 := hidq hb1; have T1 := hidq (HT.out.below hb1); clear hb1))
    go_ret
    exact ⟨rfl, B1.out⟩
end Go.Proofs.YtkggcfkjmmijbaaDoor
