/-
  The law LabelWalks returns true at every input: walked in two goes one comes to where one comes in one; a node's value is that of the one above it, walked on by its side. Conditions: the slices hold terms, the numbers fit their kinds, the two tables read as their text lays them.
-/
import Derived.Test.YtomhccendbnamaaDoorZL13Walks00
import Derived.Test.YtomhccendbnamaaDoorZL13Walks01
import Derived.Test.YtomhccendbnamaaDoorZL13Walks10
import Derived.Test.YtomhccendbnamaaDoorZL13Walks11
namespace Go.Proofs.YtomhccendbnamaaDoor
open Go.RowKit
set_option maxRecDepth 100000 in
theorem labelWalks_walk (A : List M.Tm) (vl : Value) (h : Int) (m : M.Val) (n : Int) (S : List Int) (vs : Value) (T : List Int) (vt : Value) (w : World) (hT : Tab w) (u : Ts w vl A) (_h0 : -9223372036854775808 ≤ h) (_h1 : h ≤ 9223372036854775807) (_fm : M.fitI m.2.2.2.2) (n0 : 0 ≤ n) (n1 : n ≤ 18446744073709551615) (us : Is w vs S) (ut : Is w vt T) :
    Calls Tryd.prog 3 #[vl, .int .i64 h, (.agg #[.bool m.1, .bool m.2.1, .int .u64 (M.nu m.2.2.1.1), .int .u64 (M.nu m.2.2.1.2), .int .u64 (M.nu m.2.2.2.1.1.1), .int .u64 (M.nu m.2.2.2.1.1.2), .int .u64 (M.nu m.2.2.2.1.2.1), .int .u64 (M.nu m.2.2.2.1.2.2), .int .i64 m.2.2.2.2]), .int .u64 n, vs, vt] w fun e w' => e = .returned (.bool true) ∧ Below w.heap.size w w' := by
  by_cases hl : A.length ≤ 60 ∧ S.length ≤ 30 ∧ T.length ≤ 30
  · obtain ⟨hl, hS, hU⟩ := hl
    obtain ⟨⟨x, L, e⟩, hx⟩ : ∃ r, M.walkA A m (S ++ T) = r := ⟨_, rfl⟩
    obtain ⟨⟨y, B, e'⟩, ha⟩ : ∃ r, M.walkA A m S = r := ⟨_, rfl⟩
    obtain ⟨⟨v, N, f⟩, hn⟩ : ∃ r, M.nodeA A h m n = r := ⟨_, rfl⟩
    by_cases he : e = 0
    · subst he
      obtain ⟨y', B', ha', hb⟩ := M.walk_two hx
      by_cases hf : f = 0
      · subst hf
        exact labelWalks_11 hx ha' hb (M.walk_okL hx) (M.walk_okL ha') hn (M.node_okL hn) hl hS hU n0 n1 w hT u us ut
      · obtain rfl := M.node_zero hn hf
        exact labelWalks_10 hx ha' hb (M.walk_okL hx) (M.walk_okL ha') hn hf hl hS hU n0 n1 w hT u us ut
    · by_cases hf : f = 0
      · subst hf
        exact labelWalks_01 hx he ha hn (M.node_okL hn) hl hS hU n0 n1 w hT u us ut
      · obtain rfl := M.node_zero hn hf
        exact labelWalks_00 hx he ha hn hf hl hS hU n0 n1 w hT u us ut
  · refine labelWalks_long ?_ w hT u us ut
    omega
end Go.Proofs.YtomhccendbnamaaDoor
