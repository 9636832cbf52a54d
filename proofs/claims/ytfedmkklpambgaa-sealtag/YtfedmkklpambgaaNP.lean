/-
  Plain mathematics of folding a text into a block, sixteen octets by sixteen. No condition.
-/
import Derived.Test.YtfedmkklpambgaaB9
namespace Go.Proofs.Ytfedmkklpambgaa
namespace M
def step (b : Blk) (P : List Int) : Blk := mix (xor b (ofOct (fillF P)))
def pc (L : List Int) (n : Nat) : List Int := (L.drop (16 * n)).take 16
def foldN (b : Blk) (L : List Int) : Nat → Blk
  | 0 => b
  | n + 1 => step (foldN b L n) (pc L n)
def pcs (L : List Int) : Nat := (L.length + 15) / 16
def fold (b : Blk) (L : List Int) : Blk := foldN b L (pcs L)
def foldV (b : Blk) (L : List Int) : Blk := if L.length ≤ 65536 then fold b L else (0#64, 0#64)
def foldE (L : List Int) : Int := if L.length ≤ 65536 then 0 else 3
/-- the first k of N -/
def upto (N : Nat) : (k : Nat) → k ≤ N → List (Fin N)
  | 0, _ => []
  | k + 1, h => upto N k (by omega) ++ [⟨k, by omega⟩]
theorem upto_length (N : Nat) : ∀ (k : Nat) (h : k ≤ N), (upto N k h).length = k
  | 0, _ => rfl
  | k + 1, h => by simp [upto, upto_length N k (by omega)]
theorem upto_fold (b : Blk) (L : List Int) (N : Nat) : ∀ (k : Nat) (h : k ≤ N), (upto N k h).foldl (fun c x => step c (pc L x.1)) b = foldN b L k
  | 0, _ => rfl
  | k + 1, h => by rw [upto, List.foldl_append, upto_fold b L N k (by omega)]; rfl
end M
end Go.Proofs.Ytfedmkklpambgaa
