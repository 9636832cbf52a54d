/-
  No cell of these rows narrows 'for every input' (looked for: loops, veiled, ifaces, maps, wideKeys, modest, calm, conditions, laid).
  DERIVED. THE GIVEN ROWS OF THIS SEAT. 5 by the template 'for every input the law returns true; each argument reads behind the call as it read before'; 0 by the template 'total and deterministic' (their statements: YtedilnipfjggfaaTotals.lean).
  GIVEN WITH THE SEED: the statements are not yours to turn. If you find one false, say at which input.
  Laid BY PROGRAM, IN A SANDBOX (cutbox-rows.mjs): the forced cells as the released guide's own fill.sh prints them over the translation 7d267be2e939b18a… (all of the seat's roots in one cut). By AI agents, Wed Nov 11 2026. No macro, syntax, notation, axiom, sorry.
-/
import Derived.Test.YtedilnipfjggfaaChecked
import GoSem.Claim
import GoSem.ClaimJoined
import GoSem.ClaimMapViews
import Derived.JoinedTies
import Derived.KernelRfl
namespace Go.Proofs.Ytedilnipfjggfaa
/- THE CELL 'sum', in the pinned program and in every row, IS THE sha256 OF THE DUMP (.gsa) THAT YtedilnipfjggfaaProg.lean LOADS. Nothing in Lean hashes anything: it is a label: what it is worth is what the hold of that sum in a sandbox is worth. -/
noncomputable def Try.pinned : Pinned := { name := "ytedilnipfjggfaa", sum := "7d267be2e939b18a60939c26fcc943b056010433e6df8c0528ff529ae65ee1a8", checked := Try.checked }
namespace Rows
def none {H : Type} : Left H := { results := [], args := [] }

/-- 'medlarlaw10.WholeDoes': WHATEVER THE INPUT: true; the input reads as it did. -/
def wholeDoesSpec : ChangeSpec := { name := "wholeDoes", fn := fun _ => fun
  | [d1, d2, d3] => { results := [.lit (.bool true)], args := [d1, d2, d3] }
  | _ => none }
def wholeDoesRow : OpenClaim := { program := "ytedilnipfjggfaa", sum := "7d267be2e939b18a60939c26fcc943b056010433e6df8c0528ff529ae65ee1a8", func := "medlar/medlarlaw10.WholeDoes", spec := "wholeDoes", unfollowed := true, recurses := true, apart := false }
def WholeDoesSaid : Prop := wholeDoesRow.holds Try.pinned (OpenSpec.ofChange wholeDoesSpec)

/-- ITS FALSE NEIGHBOUR: 'it returns false'. Refute it at one input. -/
def wholeDoesWrong : ChangeSpec := { name := "wholeDoes", fn := fun _ => fun
  | [d1, d2, d3] => { results := [.lit (.bool false)], args := [d1, d2, d3] }
  | _ => none }
def WholeDoesWrongFalsely : Prop := wholeDoesRow.holds Try.pinned (OpenSpec.ofChange wholeDoesWrong)

/-- 'medlarlaw10.WholeCovers': WHATEVER THE INPUT: true; the input reads as it did. -/
def wholeCoversSpec : ChangeSpec := { name := "wholeCovers", fn := fun _ => fun
  | [d1, d2, d3] => { results := [.lit (.bool true)], args := [d1, d2, d3] }
  | _ => none }
def wholeCoversRow : OpenClaim := { program := "ytedilnipfjggfaa", sum := "7d267be2e939b18a60939c26fcc943b056010433e6df8c0528ff529ae65ee1a8", func := "medlar/medlarlaw10.WholeCovers", spec := "wholeCovers", unfollowed := true, recurses := true, apart := false }
def WholeCoversSaid : Prop := wholeCoversRow.holds Try.pinned (OpenSpec.ofChange wholeCoversSpec)

/-- ITS FALSE NEIGHBOUR: 'it returns false'. Refute it at one input. -/
def wholeCoversWrong : ChangeSpec := { name := "wholeCovers", fn := fun _ => fun
  | [d1, d2, d3] => { results := [.lit (.bool false)], args := [d1, d2, d3] }
  | _ => none }
def WholeCoversWrongFalsely : Prop := wholeCoversRow.holds Try.pinned (OpenSpec.ofChange wholeCoversWrong)

/-- 'medlarlaw10.WholeMore': WHATEVER THE INPUT: true; the input reads as it did. -/
def wholeMoreSpec : ChangeSpec := { name := "wholeMore", fn := fun _ => fun
  | [d1, d2, d3] => { results := [.lit (.bool true)], args := [d1, d2, d3] }
  | _ => none }
def wholeMoreRow : OpenClaim := { program := "ytedilnipfjggfaa", sum := "7d267be2e939b18a60939c26fcc943b056010433e6df8c0528ff529ae65ee1a8", func := "medlar/medlarlaw10.WholeMore", spec := "wholeMore", unfollowed := true, recurses := true, apart := false }
def WholeMoreSaid : Prop := wholeMoreRow.holds Try.pinned (OpenSpec.ofChange wholeMoreSpec)

/-- ITS FALSE NEIGHBOUR: 'it returns false'. Refute it at one input. -/
def wholeMoreWrong : ChangeSpec := { name := "wholeMore", fn := fun _ => fun
  | [d1, d2, d3] => { results := [.lit (.bool false)], args := [d1, d2, d3] }
  | _ => none }
def WholeMoreWrongFalsely : Prop := wholeMoreRow.holds Try.pinned (OpenSpec.ofChange wholeMoreWrong)

/-- 'medlarlaw10.WholeBound': WHATEVER THE INPUT: true; the input reads as it did. -/
def wholeBoundSpec : ChangeSpec := { name := "wholeBound", fn := fun _ => fun
  | [d1, d2] => { results := [.lit (.bool true)], args := [d1, d2] }
  | _ => none }
def wholeBoundRow : OpenClaim := { program := "ytedilnipfjggfaa", sum := "7d267be2e939b18a60939c26fcc943b056010433e6df8c0528ff529ae65ee1a8", func := "medlar/medlarlaw10.WholeBound", spec := "wholeBound", unfollowed := true, recurses := true, apart := false }
def WholeBoundSaid : Prop := wholeBoundRow.holds Try.pinned (OpenSpec.ofChange wholeBoundSpec)

/-- ITS FALSE NEIGHBOUR: 'it returns false'. Refute it at one input. -/
def wholeBoundWrong : ChangeSpec := { name := "wholeBound", fn := fun _ => fun
  | [d1, d2] => { results := [.lit (.bool false)], args := [d1, d2] }
  | _ => none }
def WholeBoundWrongFalsely : Prop := wholeBoundRow.holds Try.pinned (OpenSpec.ofChange wholeBoundWrong)

/-- 'medlarlaw10.WholeBeside': WHATEVER THE INPUT: true; the input reads as it did. -/
def wholeBesideSpec : ChangeSpec := { name := "wholeBeside", fn := fun _ => fun
  | [d1, d2] => { results := [.lit (.bool true)], args := [d1, d2] }
  | _ => none }
def wholeBesideRow : OpenClaim := { program := "ytedilnipfjggfaa", sum := "7d267be2e939b18a60939c26fcc943b056010433e6df8c0528ff529ae65ee1a8", func := "medlar/medlarlaw10.WholeBeside", spec := "wholeBeside", unfollowed := true, recurses := true, apart := false }
def WholeBesideSaid : Prop := wholeBesideRow.holds Try.pinned (OpenSpec.ofChange wholeBesideSpec)

/-- ITS FALSE NEIGHBOUR: 'it returns false'. Refute it at one input. -/
def wholeBesideWrong : ChangeSpec := { name := "wholeBeside", fn := fun _ => fun
  | [d1, d2] => { results := [.lit (.bool false)], args := [d1, d2] }
  | _ => none }
def WholeBesideWrongFalsely : Prop := wholeBesideRow.holds Try.pinned (OpenSpec.ofChange wholeBesideWrong)

/- THE SECOND FORM. 'bulk': how many values and letters a reading holds, each counted each time it is reached (what is shared counts as often as it is met; a slice's spare places count too). A statement '..UptoSaid' is the law's where the arguments, and the package variables that the reading takes, are together of bulk at most 1048576: NARROWER than '..Said'. Prove '..Said' where nothing that the law and all that it calls make is longer than what came in: it says more and counts as full. Else prove '..UptoSaid'. A law counts once. -/
mutual
def uptoBulk {H : Type} : DataW H → Nat
  | .lit (.string bytes) => bytes.length + 1
  | .lit _ => 1
  | .nil => 1
  | .ptr d => uptoBulk d + 1
  | .slice elems spare => uptoBulkAll elems + uptoBulkAll spare + 1
  | .agg parts => uptoBulkAll parts + 1
  | .iface _ d => uptoBulk d + 1
  | .map entries => uptoBulkEntries entries + 1
  | .held _ => 1
def uptoBulkAll {H : Type} : List (DataW H) → Nat
  | [] => 0
  | d :: r => uptoBulk d + uptoBulkAll r
def uptoBulkEntries {H : Type} : List (Lit × DataW H) → Nat
  | [] => 0
  | x :: r => uptoBulkEntry x + uptoBulkEntries r
def uptoBulkEntry {H : Type} : Lit × DataW H → Nat
  | (.string bytes, d) => bytes.length + uptoBulk d + 1
  | (_, d) => uptoBulk d + 1
 end
def uptoSmall : (H : Type) → List (DataW H) → Bool := fun _ ds => decide (uptoBulkAll ds ≤ 1048576)
def OpenSpec.upto (s : _root_.Go.ChangeSpec) : _root_.Go.OpenSpec := { _root_.Go.OpenSpec.ofChange s with cond := some uptoSmall }

/-- 'medlarlaw10.WholeDoes', WHERE WHAT IT READS IS OF BULK AT MOST 1048576: true; the input reads as it did. -/
def wholeDoesUptoRow : OpenClaim := { program := "ytedilnipfjggfaa", sum := "7d267be2e939b18a60939c26fcc943b056010433e6df8c0528ff529ae65ee1a8", func := "medlar/medlarlaw10.WholeDoes", spec := "wholeDoes", unfollowed := true, recurses := true, apart := false, narrowed := true }
def WholeDoesUptoSaid : Prop := wholeDoesUptoRow.holds Try.pinned (OpenSpec.upto wholeDoesSpec)

/-- 'medlarlaw10.WholeCovers', WHERE WHAT IT READS IS OF BULK AT MOST 1048576: true; the input reads as it did. -/
def wholeCoversUptoRow : OpenClaim := { program := "ytedilnipfjggfaa", sum := "7d267be2e939b18a60939c26fcc943b056010433e6df8c0528ff529ae65ee1a8", func := "medlar/medlarlaw10.WholeCovers", spec := "wholeCovers", unfollowed := true, recurses := true, apart := false, narrowed := true }
def WholeCoversUptoSaid : Prop := wholeCoversUptoRow.holds Try.pinned (OpenSpec.upto wholeCoversSpec)

/-- 'medlarlaw10.WholeMore', WHERE WHAT IT READS IS OF BULK AT MOST 1048576: true; the input reads as it did. -/
def wholeMoreUptoRow : OpenClaim := { program := "ytedilnipfjggfaa", sum := "7d267be2e939b18a60939c26fcc943b056010433e6df8c0528ff529ae65ee1a8", func := "medlar/medlarlaw10.WholeMore", spec := "wholeMore", unfollowed := true, recurses := true, apart := false, narrowed := true }
def WholeMoreUptoSaid : Prop := wholeMoreUptoRow.holds Try.pinned (OpenSpec.upto wholeMoreSpec)

/-- 'medlarlaw10.WholeBound', WHERE WHAT IT READS IS OF BULK AT MOST 1048576: true; the input reads as it did. -/
def wholeBoundUptoRow : OpenClaim := { program := "ytedilnipfjggfaa", sum := "7d267be2e939b18a60939c26fcc943b056010433e6df8c0528ff529ae65ee1a8", func := "medlar/medlarlaw10.WholeBound", spec := "wholeBound", unfollowed := true, recurses := true, apart := false, narrowed := true }
def WholeBoundUptoSaid : Prop := wholeBoundUptoRow.holds Try.pinned (OpenSpec.upto wholeBoundSpec)

/-- 'medlarlaw10.WholeBeside', WHERE WHAT IT READS IS OF BULK AT MOST 1048576: true; the input reads as it did. -/
def wholeBesideUptoRow : OpenClaim := { program := "ytedilnipfjggfaa", sum := "7d267be2e939b18a60939c26fcc943b056010433e6df8c0528ff529ae65ee1a8", func := "medlar/medlarlaw10.WholeBeside", spec := "wholeBeside", unfollowed := true, recurses := true, apart := false, narrowed := true }
def WholeBesideUptoSaid : Prop := wholeBesideUptoRow.holds Try.pinned (OpenSpec.upto wholeBesideSpec)

end Rows
end Go.Proofs.Ytedilnipfjggfaa
