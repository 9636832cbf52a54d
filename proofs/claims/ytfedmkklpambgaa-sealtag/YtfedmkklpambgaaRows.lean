/-
  No cell of these rows narrows 'for every input' (looked for: loops, veiled, ifaces, maps, wideKeys, modest, calm, conditions, laid).
  DERIVED. THE GIVEN ROWS OF THIS SEAT. 5 by the template 'for every input the law returns true; each argument reads behind the call as it read before'; 0 by the template 'total and deterministic' (their statements: YtfedmkklpambgaaTotals.lean).
  GIVEN WITH THE SEED: the statements are not yours to turn. If you find one false, say at which input.
  Laid BY PROGRAM, IN A SANDBOX (cutbox-rows.mjs): the forced cells as the released guide's own fill.sh prints them over the translation 7ba37148b3115398… (all of the seat's roots in one cut). By AI agents, Wed Nov 11 2026. No macro, syntax, notation, axiom, sorry.
-/
import Derived.Test.YtfedmkklpambgaaChecked
import GoSem.Claim
import GoSem.ClaimJoined
import GoSem.ClaimMapViews
import Derived.JoinedTies
import Derived.KernelRfl
namespace Go.Proofs.Ytfedmkklpambgaa
/- THE CELL 'sum', in the pinned program and in every row, IS THE sha256 OF THE DUMP (.gsa) THAT YtfedmkklpambgaaProg.lean LOADS. Nothing in Lean hashes anything: it is a label: what it is worth is what the hold of that sum in a sandbox is worth. -/
noncomputable def Try.pinned : Pinned := { name := "ytfedmkklpambgaa", sum := "7ba37148b311539862e0fd644153a3ab66f4027579c6286e0a56a32c55f4b0e6", checked := Try.checked }
namespace Rows
def none {H : Type} : Left H := { results := [], args := [] }

/-- 'medlarlaw04.SealDoes': WHATEVER THE INPUT: true; the input reads as it did. -/
def sealDoesSpec : ChangeSpec := { name := "sealDoes", fn := fun _ => fun
  | [d1, d2, d3, d4] => { results := [.lit (.bool true)], args := [d1, d2, d3, d4] }
  | _ => none }
def sealDoesRow : OpenClaim := { program := "ytfedmkklpambgaa", sum := "7ba37148b311539862e0fd644153a3ab66f4027579c6286e0a56a32c55f4b0e6", func := "medlar/medlarlaw04.SealDoes", spec := "sealDoes", unfollowed := true, recurses := true, apart := false }
def SealDoesSaid : Prop := sealDoesRow.holds Try.pinned (OpenSpec.ofChange sealDoesSpec)

/-- ITS FALSE NEIGHBOUR: 'it returns false'. Refute it at one input. -/
def sealDoesWrong : ChangeSpec := { name := "sealDoes", fn := fun _ => fun
  | [d1, d2, d3, d4] => { results := [.lit (.bool false)], args := [d1, d2, d3, d4] }
  | _ => none }
def SealDoesWrongFalsely : Prop := sealDoesRow.holds Try.pinned (OpenSpec.ofChange sealDoesWrong)

/-- 'medlarlaw04.SealBack': WHATEVER THE INPUT: true; the input reads as it did. -/
def sealBackSpec : ChangeSpec := { name := "sealBack", fn := fun _ => fun
  | [d1, d2, d3, d4] => { results := [.lit (.bool true)], args := [d1, d2, d3, d4] }
  | _ => none }
def sealBackRow : OpenClaim := { program := "ytfedmkklpambgaa", sum := "7ba37148b311539862e0fd644153a3ab66f4027579c6286e0a56a32c55f4b0e6", func := "medlar/medlarlaw04.SealBack", spec := "sealBack", unfollowed := true, recurses := true, apart := false }
def SealBackSaid : Prop := sealBackRow.holds Try.pinned (OpenSpec.ofChange sealBackSpec)

/-- ITS FALSE NEIGHBOUR: 'it returns false'. Refute it at one input. -/
def sealBackWrong : ChangeSpec := { name := "sealBack", fn := fun _ => fun
  | [d1, d2, d3, d4] => { results := [.lit (.bool false)], args := [d1, d2, d3, d4] }
  | _ => none }
def SealBackWrongFalsely : Prop := sealBackRow.holds Try.pinned (OpenSpec.ofChange sealBackWrong)

/-- 'medlarlaw04.SealTag': WHATEVER THE INPUT: true; the input reads as it did. -/
def sealTagSpec : ChangeSpec := { name := "sealTag", fn := fun _ => fun
  | [d1, d2, d3, d4] => { results := [.lit (.bool true)], args := [d1, d2, d3, d4] }
  | _ => none }
def sealTagRow : OpenClaim := { program := "ytfedmkklpambgaa", sum := "7ba37148b311539862e0fd644153a3ab66f4027579c6286e0a56a32c55f4b0e6", func := "medlar/medlarlaw04.SealTag", spec := "sealTag", unfollowed := true, recurses := true, apart := false }
def SealTagSaid : Prop := sealTagRow.holds Try.pinned (OpenSpec.ofChange sealTagSpec)

/-- ITS FALSE NEIGHBOUR: 'it returns false'. Refute it at one input. -/
def sealTagWrong : ChangeSpec := { name := "sealTag", fn := fun _ => fun
  | [d1, d2, d3, d4] => { results := [.lit (.bool false)], args := [d1, d2, d3, d4] }
  | _ => none }
def SealTagWrongFalsely : Prop := sealTagRow.holds Try.pinned (OpenSpec.ofChange sealTagWrong)

/-- 'medlarlaw04.SealOctets': WHATEVER THE INPUT: true; the input reads as it did. -/
def sealOctetsSpec : ChangeSpec := { name := "sealOctets", fn := fun _ => fun
  | [d1, d2] => { results := [.lit (.bool true)], args := [d1, d2] }
  | _ => none }
def sealOctetsRow : OpenClaim := { program := "ytfedmkklpambgaa", sum := "7ba37148b311539862e0fd644153a3ab66f4027579c6286e0a56a32c55f4b0e6", func := "medlar/medlarlaw04.SealOctets", spec := "sealOctets", unfollowed := true, recurses := true, apart := false }
def SealOctetsSaid : Prop := sealOctetsRow.holds Try.pinned (OpenSpec.ofChange sealOctetsSpec)

/-- ITS FALSE NEIGHBOUR: 'it returns false'. Refute it at one input. -/
def sealOctetsWrong : ChangeSpec := { name := "sealOctets", fn := fun _ => fun
  | [d1, d2] => { results := [.lit (.bool false)], args := [d1, d2] }
  | _ => none }
def SealOctetsWrongFalsely : Prop := sealOctetsRow.holds Try.pinned (OpenSpec.ofChange sealOctetsWrong)

/-- 'medlarlaw04.SealOther': WHATEVER THE INPUT: true; the input reads as it did. -/
def sealOtherSpec : ChangeSpec := { name := "sealOther", fn := fun _ => fun
  | [d1, d2, d3] => { results := [.lit (.bool true)], args := [d1, d2, d3] }
  | _ => none }
def sealOtherRow : OpenClaim := { program := "ytfedmkklpambgaa", sum := "7ba37148b311539862e0fd644153a3ab66f4027579c6286e0a56a32c55f4b0e6", func := "medlar/medlarlaw04.SealOther", spec := "sealOther", unfollowed := true, recurses := true, apart := false }
def SealOtherSaid : Prop := sealOtherRow.holds Try.pinned (OpenSpec.ofChange sealOtherSpec)

/-- ITS FALSE NEIGHBOUR: 'it returns false'. Refute it at one input. -/
def sealOtherWrong : ChangeSpec := { name := "sealOther", fn := fun _ => fun
  | [d1, d2, d3] => { results := [.lit (.bool false)], args := [d1, d2, d3] }
  | _ => none }
def SealOtherWrongFalsely : Prop := sealOtherRow.holds Try.pinned (OpenSpec.ofChange sealOtherWrong)

/- THE SECOND FORM. 'bulk': how many values and letters a reading holds, each counted each time it is reached (what is shared counts as often as it is met; a slice's spare places count too). A statement '..UptoSaid' is the law's where the arguments, and the package variables that the reading takes, are together of bulk at most 1048576: NARROWER than '..Said'. Prove '..Said' where nothing that the law and all that it calls make is longer than what came in: it says more and counts as full. Else prove '..UptoSaid'. A law counts once. -/
mutual
def uptoBulk {H : Type} : DataW H → Nat
  | .lit (.string bytes) => bytes.length + 1
  | .lit _ => 1
  | .nil => 1
  | .ptr d => uptoBulk d + 1
  | .slice elems spare => uptoBulkAll elems + uptoBulkAll spare + 1
  | .agg parts => uptoBulkAll parts + 1
  | .iface _ d => uptoBulk d + 1
  | .map entries => uptoBulkEntries entries + 1
  | .held _ => 1
def uptoBulkAll {H : Type} : List (DataW H) → Nat
  | [] => 0
  | d :: r => uptoBulk d + uptoBulkAll r
def uptoBulkEntries {H : Type} : List (Lit × DataW H) → Nat
  | [] => 0
  | x :: r => uptoBulkEntry x + uptoBulkEntries r
def uptoBulkEntry {H : Type} : Lit × DataW H → Nat
  | (.string bytes, d) => bytes.length + uptoBulk d + 1
  | (_, d) => uptoBulk d + 1
 end
def uptoSmall : (H : Type) → List (DataW H) → Bool := fun _ ds => decide (uptoBulkAll ds ≤ 1048576)
def OpenSpec.upto (s : _root_.Go.ChangeSpec) : _root_.Go.OpenSpec := { _root_.Go.OpenSpec.ofChange s with cond := some uptoSmall }

/-- 'medlarlaw04.SealDoes', WHERE WHAT IT READS IS OF BULK AT MOST 1048576: true; the input reads as it did. -/
def sealDoesUptoRow : OpenClaim := { program := "ytfedmkklpambgaa", sum := "7ba37148b311539862e0fd644153a3ab66f4027579c6286e0a56a32c55f4b0e6", func := "medlar/medlarlaw04.SealDoes", spec := "sealDoes", unfollowed := true, recurses := true, apart := false, narrowed := true }
def SealDoesUptoSaid : Prop := sealDoesUptoRow.holds Try.pinned (OpenSpec.upto sealDoesSpec)

/-- 'medlarlaw04.SealBack', WHERE WHAT IT READS IS OF BULK AT MOST 1048576: true; the input reads as it did. -/
def sealBackUptoRow : OpenClaim := { program := "ytfedmkklpambgaa", sum := "7ba37148b311539862e0fd644153a3ab66f4027579c6286e0a56a32c55f4b0e6", func := "medlar/medlarlaw04.SealBack", spec := "sealBack", unfollowed := true, recurses := true, apart := false, narrowed := true }
def SealBackUptoSaid : Prop := sealBackUptoRow.holds Try.pinned (OpenSpec.upto sealBackSpec)

/-- 'medlarlaw04.SealTag', WHERE WHAT IT READS IS OF BULK AT MOST 1048576: true; the input reads as it did. -/
def sealTagUptoRow : OpenClaim := { program := "ytfedmkklpambgaa", sum := "7ba37148b311539862e0fd644153a3ab66f4027579c6286e0a56a32c55f4b0e6", func := "medlar/medlarlaw04.SealTag", spec := "sealTag", unfollowed := true, recurses := true, apart := false, narrowed := true }
def SealTagUptoSaid : Prop := sealTagUptoRow.holds Try.pinned (OpenSpec.upto sealTagSpec)

/-- 'medlarlaw04.SealOctets', WHERE WHAT IT READS IS OF BULK AT MOST 1048576: true; the input reads as it did. -/
def sealOctetsUptoRow : OpenClaim := { program := "ytfedmkklpambgaa", sum := "7ba37148b311539862e0fd644153a3ab66f4027579c6286e0a56a32c55f4b0e6", func := "medlar/medlarlaw04.SealOctets", spec := "sealOctets", unfollowed := true, recurses := true, apart := false, narrowed := true }
def SealOctetsUptoSaid : Prop := sealOctetsUptoRow.holds Try.pinned (OpenSpec.upto sealOctetsSpec)

/-- 'medlarlaw04.SealOther', WHERE WHAT IT READS IS OF BULK AT MOST 1048576: true; the input reads as it did. -/
def sealOtherUptoRow : OpenClaim := { program := "ytfedmkklpambgaa", sum := "7ba37148b311539862e0fd644153a3ab66f4027579c6286e0a56a32c55f4b0e6", func := "medlar/medlarlaw04.SealOther", spec := "sealOther", unfollowed := true, recurses := true, apart := false, narrowed := true }
def SealOtherUptoSaid : Prop := sealOtherUptoRow.holds Try.pinned (OpenSpec.upto sealOtherSpec)

end Rows
end Go.Proofs.Ytfedmkklpambgaa
