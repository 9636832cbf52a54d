/-
  What the document's own answer Chain comes to: all nodes above one, in new memory. Conditions: it is a node.
-/
import Derived.Test.YtbgfbhfjlphpkaaR1
namespace Go.Proofs.Ytbgfbhfjlphpkaa
open Go.RowKit
namespace M
/-- all nodes above n, from the first one on -/
def chainL (n : Int) : List Int := (List.range ((dep n).toNat + 1)).map fun (k : Nat) => up n k
theorem chainL_length (n : Int) : (chainL n).length = (dep n).toNat + 1 := by simp [chainL]
theorem chainL_at (n : Int) (k : Nat) (h : k < (dep n).toNat + 1) : (chainL n)[k]? = some (up n k) := by
  simp [chainL, h]
theorem chainL_one : chainL 1 = [1] := by decide +kernel
theorem dep_half {n : Int} (hn : 2 ≤ n) : dep (n / 2) = dep n - 1 := by
  obtain ⟨_, _, _, _, _, o6⟩ := oth_facts hn
  rw [← up_one, up_dep (by omega) (by omega) (by omega)]
theorem chainL_step {n : Int} (hn : 2 ≤ n) : chainL n = chainL (n / 2) ++ [n] := by
  obtain ⟨_, _, _, _, _, o6⟩ := oth_facts hn
  have hd := dep_half hn
  unfold chainL
  rw [hd, show (dep n).toNat + 1 = ((dep n - 1).toNat + 1) + 1 by omega, List.range_succ, List.map_append]
  congr 1
  · apply List.map_congr_left
    intro k hk
    have hk2 := List.mem_range.1 hk
    rw [← up_one, up_up (by omega) (by omega) (by omega) (by omega)]
  · simp only [List.map_cons, List.map_nil]
    congr 1
    rw [show (((dep n - 1).toNat + 1 : Nat) : Int) = dep n by omega, up_self]
end M
theorem Try.infoU64 : (Try.prog.info? 23).map (fun i => (i.zero, i.size, i.bytes)) = some (some (.int .u64 0), 1, 8) := by kernel_rfl
abbrev u64s (l : List Int) : List Value := l.map (Value.int .u64)
theorem own_shape {w : World} {base : Nat} {e : TypeId} {v : Value} {k : Nat} {xs : List Value} (h : w.ownsRow base e 1 v (k + 1) xs) : ∃ g cap, v = .slice (some ⟨g, 0, none⟩) (k + 1) cap := by
  rcases h.2 with ⟨_, h2⟩ | ⟨g, cap, cur, h2, _⟩
  · omega
  · exact ⟨g, cap, h2⟩
end Go.Proofs.Ytbgfbhfjlphpkaa
