/-
  What leaf's own small functions lastLeaf, isSet, checkSet and Check answer at every input. Conditions: the slice holds numbers that fit.
-/
import Derived.Test.YtnfobglaeaalfaaS1
namespace Go.Proofs.Ytnfobglaeaalfaa
open Go.RowKit
def M.lastV (h : Int) : Int := if M.htB h then M.p2 h - 1 else 0
def M.setLast (h : Int) (L : List Int) : Int := if M.setB h L then M.p2 h - 1 else 0
def M.lastE (h : Int) : Int := if M.htB h then 0 else 1
set_option maxHeartbeats 400000 in
theorem lastLeaf_any (h : Int) (w : World) :
    Calls Try.prog 47 #[.int .i64 h] w fun e w' => e = .returned (.tuple #[.int .u64 (M.lastV h), .int .i64 (M.lastE h)]) ∧ Below w.heap.size w w' := by
  have e1 : M.highV h 1 = M.lastV h := M.highV_one h
  have e2 : M.eChk h 1 = M.lastE h := M.eChk_one h
  have e3 := M.lowV_one h
  go_enter Try.func47, Try.ntmps47
  go_wp2_with (first | (go_at_call 30; refine (leaves_any _ _ _ (by omega) (by omega)).mono ?_; rintro e w1 ⟨rfl, hb1⟩))
  go_ret2
  exact ⟨rfl, hb1.alloc hb1.size _⟩
end Go.Proofs.Ytnfobglaeaalfaa
