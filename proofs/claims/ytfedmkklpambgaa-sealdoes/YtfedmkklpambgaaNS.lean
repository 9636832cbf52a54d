/-
  Plain mathematics of what is wrapped: masks, tags, wrapping and taking out. No condition.
-/
import Derived.Test.YtfedmkklpambgaaNQ
import Derived.Test.YtfedmkklpambgaaNR
namespace Go.Proofs.Ytfedmkklpambgaa
namespace M
/-- what is wrapped: C and T -/
abbrev Sea := Blk × Blk
def mask (k b : Blk) : Blk := xor b (partV k 3)
def tag (k c : Blk) : Blk := mix (xor (partV k 4) c)
def wrap (k b : Blk) : Sea := (mask k b, tag k (mask k b))
def unV (k : Blk) (s : Sea) : Blk := if tag k s.1 = s.2 then mask k s.1 else (0#64, 0#64)
def unE (k : Blk) (s : Sea) : Int := if tag k s.1 = s.2 then 0 else 7
def soct (s : Sea) : List Int := octs s.1 ++ octs s.2
def sofV (L : List Int) : Sea := if L.length = 32 then (ofOct (fillF (L.take 16)), ofOct (fillF (L.drop 16))) else ((0#64, 0#64), (0#64, 0#64))
def sofE (L : List Int) : Int := if L.length = 32 then 0 else 2
theorem mask_mask (k b : Blk) : mask k (mask k b) = b := xor_xor b _
theorem mask_inj {k a b : Blk} : mask k a = mask k b ↔ a = b := xor_inj
theorem wrap_inj {k a b : Blk} : wrap k a = wrap k b ↔ a = b := by
  constructor
  · intro h; exact mask_inj.1 (congrArg Prod.fst h)
  · intro h; rw [h]
theorem foldV_tag (k c : Blk) : foldV (partV k 4) (octs c) = tag k c := by
  rw [show foldV (partV k 4) (octs c) = fold (partV k 4) (octs c) from if_pos (by rw [octs_length]; decide), fold_octs]; rfl
theorem foldE_octs (c : Blk) : foldE (octs c) = 0 := if_pos (by rw [octs_length]; decide)
theorem unV_wrap (k a : Blk) : unV k (wrap k a) = a := by
  unfold unV wrap; dsimp only; rw [if_pos rfl, mask_mask]
theorem unE_wrap (k a : Blk) : unE k (wrap k a) = 0 := if_pos rfl
theorem wrap_unV (k : Blk) (s : Sea) (h : tag k s.1 = s.2) : wrap k (unV k s) = s := by
  unfold unV wrap; rw [if_pos h, mask_mask, h]
theorem wrap_mask (k : Blk) (s : Sea) : wrap k (mask k s.1) = (s.1, tag k s.1) := by
  unfold wrap; rw [mask_mask]
theorem xor_masks (k a b : Blk) : xor (mask k a) (mask k b) = xor a b := by
  unfold mask
  rw [xor_comm b, ← xor_assoc, xor_xor]
theorem soct_length (s : Sea) : (soct s).length = 32 := by unfold soct; rw [List.length_append, octs_length, octs_length]
theorem soct_fits (s : Sea) : ∀ x ∈ soct s, 0 ≤ x ∧ x ≤ 255 := by
  intro x hx
  rcases List.mem_append.1 hx with h | h
  · exact octs_fits _ x h
  · exact octs_fits _ x h
theorem sofV_soct (s : Sea) : sofV (soct s) = s := by
  unfold sofV
  rw [if_pos (soct_length s)]
  unfold soct
  rw [List.take_left' (octs_length _), List.drop_left' (octs_length _), ofOct_octs, ofOct_octs]
theorem sofE_soct (s : Sea) : sofE (soct s) = 0 := if_pos (soct_length s)
theorem soct_sofV {L : List Int} (hf : ∀ x ∈ L, 0 ≤ x ∧ x ≤ 255) (h : L.length = 32) : soct (sofV L) = L := by
  unfold soct sofV
  rw [if_pos h]
  dsimp only
  rw [octs_ofOct (fun x hx => hf x (List.mem_of_mem_take hx)) (by rw [List.length_take]; omega), octs_ofOct (fun x hx => hf x (List.mem_of_mem_drop hx)) (by rw [List.length_drop]; omega), List.take_append_drop]
theorem xor_one_ne (x : BitVec 64) : ¬ x ^^^ 1#64 = x := by
  intro h
  have h2 : x ^^^ (x ^^^ 1#64) = x ^^^ x := by rw [h]
  rw [← BitVec.xor_assoc, BitVec.xor_self, BitVec.zero_xor] at h2
  exact absurd h2 (by decide)
end M
end Go.Proofs.Ytfedmkklpambgaa
