/-
  No cell of these rows narrows 'for every input' (looked for: loops, veiled, ifaces, maps, wideKeys, modest, calm, conditions, laid).
  DERIVED. THE GIVEN ROWS OF THIS SEAT. 7 by the template 'for every input the law returns true; each argument reads behind the call as it read before'; 0 by the template 'total and deterministic' (their statements: YtonjdnjeemcilaaTotals.lean).
  GIVEN WITH THE SEED: the statements are not yours to turn. If you find one false, say at which input.
  Laid BY PROGRAM, IN A SANDBOX (cutbox-rows.mjs): the forced cells as the released guide's own fill.sh prints them over the translation f12ad7373850bd4a… (all of the seat's roots in one cut). By AI agents, Wed Nov 11 2026. No macro, syntax, notation, axiom, sorry.
-/
import Derived.Test.YtonjdnjeemcilaaChecked
import GoSem.Claim
import GoSem.ClaimJoined
import GoSem.ClaimMapViews
import Derived.JoinedTies
import Derived.KernelRfl
namespace Go.Proofs.Ytonjdnjeemcilaa
/- THE CELL 'sum', in the pinned program and in every row, IS THE sha256 OF THE DUMP (.gsa) THAT YtonjdnjeemcilaaProg.lean LOADS. Nothing in Lean hashes anything: it is a label: what it is worth is what the hold of that sum in a sandbox is worth. -/
noncomputable def Try.pinned : Pinned := { name := "ytonjdnjeemcilaa", sum := "f12ad7373850bd4a9cee11903077a43d42e7f9409eaf9bcea53793fb49c2f81b", checked := Try.checked }
namespace Rows
def none {H : Type} : Left H := { results := [], args := [] }

/-- 'medlarlaw01.NodeTells': WHATEVER THE INPUT: true; the input reads as it did. -/
def nodeTellsSpec : ChangeSpec := { name := "nodeTells", fn := fun _ => fun
  | [d1, d2, d3] => { results := [.lit (.bool true)], args := [d1, d2, d3] }
  | _ => none }
def nodeTellsRow : OpenClaim := { program := "ytonjdnjeemcilaa", sum := "f12ad7373850bd4a9cee11903077a43d42e7f9409eaf9bcea53793fb49c2f81b", func := "medlar/medlarlaw01.NodeTells", spec := "nodeTells", recurses := true, apart := false }
def NodeTellsSaid : Prop := nodeTellsRow.holds Try.pinned (OpenSpec.ofChange nodeTellsSpec)

/-- ITS FALSE NEIGHBOUR: 'it returns false'. Refute it at one input. -/
def nodeTellsWrong : ChangeSpec := { name := "nodeTells", fn := fun _ => fun
  | [d1, d2, d3] => { results := [.lit (.bool false)], args := [d1, d2, d3] }
  | _ => none }
def NodeTellsWrongFalsely : Prop := nodeTellsRow.holds Try.pinned (OpenSpec.ofChange nodeTellsWrong)

/-- 'medlarlaw01.NodeTwo': WHATEVER THE INPUT: true; the input reads as it did. -/
def nodeTwoSpec : ChangeSpec := { name := "nodeTwo", fn := fun _ => fun
  | [d1, d2, d3, d4] => { results := [.lit (.bool true)], args := [d1, d2, d3, d4] }
  | _ => none }
def nodeTwoRow : OpenClaim := { program := "ytonjdnjeemcilaa", sum := "f12ad7373850bd4a9cee11903077a43d42e7f9409eaf9bcea53793fb49c2f81b", func := "medlar/medlarlaw01.NodeTwo", spec := "nodeTwo", recurses := true, apart := false }
def NodeTwoSaid : Prop := nodeTwoRow.holds Try.pinned (OpenSpec.ofChange nodeTwoSpec)

/-- ITS FALSE NEIGHBOUR: 'it returns false'. Refute it at one input. -/
def nodeTwoWrong : ChangeSpec := { name := "nodeTwo", fn := fun _ => fun
  | [d1, d2, d3, d4] => { results := [.lit (.bool false)], args := [d1, d2, d3, d4] }
  | _ => none }
def NodeTwoWrongFalsely : Prop := nodeTwoRow.holds Try.pinned (OpenSpec.ofChange nodeTwoWrong)

/-- 'medlarlaw01.NodeSpans': WHATEVER THE INPUT: true; the input reads as it did. -/
def nodeSpansSpec : ChangeSpec := { name := "nodeSpans", fn := fun _ => fun
  | [d1, d2, d3] => { results := [.lit (.bool true)], args := [d1, d2, d3] }
  | _ => none }
def nodeSpansRow : OpenClaim := { program := "ytonjdnjeemcilaa", sum := "f12ad7373850bd4a9cee11903077a43d42e7f9409eaf9bcea53793fb49c2f81b", func := "medlar/medlarlaw01.NodeSpans", spec := "nodeSpans", apart := false }
def NodeSpansSaid : Prop := nodeSpansRow.holds Try.pinned (OpenSpec.ofChange nodeSpansSpec)

/-- ITS FALSE NEIGHBOUR: 'it returns false'. Refute it at one input. -/
def nodeSpansWrong : ChangeSpec := { name := "nodeSpans", fn := fun _ => fun
  | [d1, d2, d3] => { results := [.lit (.bool false)], args := [d1, d2, d3] }
  | _ => none }
def NodeSpansWrongFalsely : Prop := nodeSpansRow.holds Try.pinned (OpenSpec.ofChange nodeSpansWrong)

/-- 'medlarlaw01.NodeMeets': WHATEVER THE INPUT: true; the input reads as it did. -/
def nodeMeetsSpec : ChangeSpec := { name := "nodeMeets", fn := fun _ => fun
  | [d1, d2, d3] => { results := [.lit (.bool true)], args := [d1, d2, d3] }
  | _ => none }
def nodeMeetsRow : OpenClaim := { program := "ytonjdnjeemcilaa", sum := "f12ad7373850bd4a9cee11903077a43d42e7f9409eaf9bcea53793fb49c2f81b", func := "medlar/medlarlaw01.NodeMeets", spec := "nodeMeets", apart := false }
def NodeMeetsSaid : Prop := nodeMeetsRow.holds Try.pinned (OpenSpec.ofChange nodeMeetsSpec)

/-- ITS FALSE NEIGHBOUR: 'it returns false'. Refute it at one input. -/
def nodeMeetsWrong : ChangeSpec := { name := "nodeMeets", fn := fun _ => fun
  | [d1, d2, d3] => { results := [.lit (.bool false)], args := [d1, d2, d3] }
  | _ => none }
def NodeMeetsWrongFalsely : Prop := nodeMeetsRow.holds Try.pinned (OpenSpec.ofChange nodeMeetsWrong)

/-- 'medlarlaw01.NodePaths': WHATEVER THE INPUT: true; the input reads as it did. -/
def nodePathsSpec : ChangeSpec := { name := "nodePaths", fn := fun _ => fun
  | [d1, d2, d3] => { results := [.lit (.bool true)], args := [d1, d2, d3] }
  | _ => none }
def nodePathsRow : OpenClaim := { program := "ytonjdnjeemcilaa", sum := "f12ad7373850bd4a9cee11903077a43d42e7f9409eaf9bcea53793fb49c2f81b", func := "medlar/medlarlaw01.NodePaths", spec := "nodePaths", apart := false }
def NodePathsSaid : Prop := nodePathsRow.holds Try.pinned (OpenSpec.ofChange nodePathsSpec)

/-- ITS FALSE NEIGHBOUR: 'it returns false'. Refute it at one input. -/
def nodePathsWrong : ChangeSpec := { name := "nodePaths", fn := fun _ => fun
  | [d1, d2, d3] => { results := [.lit (.bool false)], args := [d1, d2, d3] }
  | _ => none }
def NodePathsWrongFalsely : Prop := nodePathsRow.holds Try.pinned (OpenSpec.ofChange nodePathsWrong)

/-- 'medlarlaw01.NodeOther': WHATEVER THE INPUT: true; the input reads as it did. -/
def nodeOtherSpec : ChangeSpec := { name := "nodeOther", fn := fun _ => fun
  | [d1, d2] => { results := [.lit (.bool true)], args := [d1, d2] }
  | _ => none }
def nodeOtherRow : OpenClaim := { program := "ytonjdnjeemcilaa", sum := "f12ad7373850bd4a9cee11903077a43d42e7f9409eaf9bcea53793fb49c2f81b", func := "medlar/medlarlaw01.NodeOther", spec := "nodeOther", apart := false }
def NodeOtherSaid : Prop := nodeOtherRow.holds Try.pinned (OpenSpec.ofChange nodeOtherSpec)

/-- ITS FALSE NEIGHBOUR: 'it returns false'. Refute it at one input. -/
def nodeOtherWrong : ChangeSpec := { name := "nodeOther", fn := fun _ => fun
  | [d1, d2] => { results := [.lit (.bool false)], args := [d1, d2] }
  | _ => none }
def NodeOtherWrongFalsely : Prop := nodeOtherRow.holds Try.pinned (OpenSpec.ofChange nodeOtherWrong)

/-- 'medlarlaw01.NodeLeaf': WHATEVER THE INPUT: true; the input reads as it did. -/
def nodeLeafSpec : ChangeSpec := { name := "nodeLeaf", fn := fun _ => fun
  | [d1, d2, d3] => { results := [.lit (.bool true)], args := [d1, d2, d3] }
  | _ => none }
def nodeLeafRow : OpenClaim := { program := "ytonjdnjeemcilaa", sum := "f12ad7373850bd4a9cee11903077a43d42e7f9409eaf9bcea53793fb49c2f81b", func := "medlar/medlarlaw01.NodeLeaf", spec := "nodeLeaf", apart := false }
def NodeLeafSaid : Prop := nodeLeafRow.holds Try.pinned (OpenSpec.ofChange nodeLeafSpec)

/-- ITS FALSE NEIGHBOUR: 'it returns false'. Refute it at one input. -/
def nodeLeafWrong : ChangeSpec := { name := "nodeLeaf", fn := fun _ => fun
  | [d1, d2, d3] => { results := [.lit (.bool false)], args := [d1, d2, d3] }
  | _ => none }
def NodeLeafWrongFalsely : Prop := nodeLeafRow.holds Try.pinned (OpenSpec.ofChange nodeLeafWrong)

/- THE SECOND FORM. 'bulk': how many values and letters a reading holds, each counted each time it is reached (what is shared counts as often as it is met; a slice's spare places count too). A statement '..UptoSaid' is the law's where the arguments, and the package variables that the reading takes, are together of bulk at most 1048576: NARROWER than '..Said'. Prove '..Said' where nothing that the law and all that it calls make is longer than what came in: it says more and counts as full. Else prove '..UptoSaid'. A law counts once. -/
mutual
def uptoBulk {H : Type} : DataW H → Nat
  | .lit (.string bytes) => bytes.length + 1
  | .lit _ => 1
  | .nil => 1
  | .ptr d => uptoBulk d + 1
  | .slice elems spare => uptoBulkAll elems + uptoBulkAll spare + 1
  | .agg parts => uptoBulkAll parts + 1
  | .iface _ d => uptoBulk d + 1
  | .map entries => uptoBulkEntries entries + 1
  | .held _ => 1
def uptoBulkAll {H : Type} : List (DataW H) → Nat
  | [] => 0
  | d :: r => uptoBulk d + uptoBulkAll r
def uptoBulkEntries {H : Type} : List (Lit × DataW H) → Nat
  | [] => 0
  | x :: r => uptoBulkEntry x + uptoBulkEntries r
def uptoBulkEntry {H : Type} : Lit × DataW H → Nat
  | (.string bytes, d) => bytes.length + uptoBulk d + 1
  | (_, d) => uptoBulk d + 1
 end
def uptoSmall : (H : Type) → List (DataW H) → Bool := fun _ ds => decide (uptoBulkAll ds ≤ 1048576)
def OpenSpec.upto (s : _root_.Go.ChangeSpec) : _root_.Go.OpenSpec := { _root_.Go.OpenSpec.ofChange s with cond := some uptoSmall }

/-- 'medlarlaw01.NodeTells', WHERE WHAT IT READS IS OF BULK AT MOST 1048576: true; the input reads as it did. -/
def nodeTellsUptoRow : OpenClaim := { program := "ytonjdnjeemcilaa", sum := "f12ad7373850bd4a9cee11903077a43d42e7f9409eaf9bcea53793fb49c2f81b", func := "medlar/medlarlaw01.NodeTells", spec := "nodeTells", recurses := true, apart := false, narrowed := true }
def NodeTellsUptoSaid : Prop := nodeTellsUptoRow.holds Try.pinned (OpenSpec.upto nodeTellsSpec)

/-- 'medlarlaw01.NodeTwo', WHERE WHAT IT READS IS OF BULK AT MOST 1048576: true; the input reads as it did. -/
def nodeTwoUptoRow : OpenClaim := { program := "ytonjdnjeemcilaa", sum := "f12ad7373850bd4a9cee11903077a43d42e7f9409eaf9bcea53793fb49c2f81b", func := "medlar/medlarlaw01.NodeTwo", spec := "nodeTwo", recurses := true, apart := false, narrowed := true }
def NodeTwoUptoSaid : Prop := nodeTwoUptoRow.holds Try.pinned (OpenSpec.upto nodeTwoSpec)

/-- 'medlarlaw01.NodeSpans', WHERE WHAT IT READS IS OF BULK AT MOST 1048576: true; the input reads as it did. -/
def nodeSpansUptoRow : OpenClaim := { program := "ytonjdnjeemcilaa", sum := "f12ad7373850bd4a9cee11903077a43d42e7f9409eaf9bcea53793fb49c2f81b", func := "medlar/medlarlaw01.NodeSpans", spec := "nodeSpans", apart := false, narrowed := true }
def NodeSpansUptoSaid : Prop := nodeSpansUptoRow.holds Try.pinned (OpenSpec.upto nodeSpansSpec)

/-- 'medlarlaw01.NodeMeets', WHERE WHAT IT READS IS OF BULK AT MOST 1048576: true; the input reads as it did. -/
def nodeMeetsUptoRow : OpenClaim := { program := "ytonjdnjeemcilaa", sum := "f12ad7373850bd4a9cee11903077a43d42e7f9409eaf9bcea53793fb49c2f81b", func := "medlar/medlarlaw01.NodeMeets", spec := "nodeMeets", apart := false, narrowed := true }
def NodeMeetsUptoSaid : Prop := nodeMeetsUptoRow.holds Try.pinned (OpenSpec.upto nodeMeetsSpec)

/-- 'medlarlaw01.NodePaths', WHERE WHAT IT READS IS OF BULK AT MOST 1048576: true; the input reads as it did. -/
def nodePathsUptoRow : OpenClaim := { program := "ytonjdnjeemcilaa", sum := "f12ad7373850bd4a9cee11903077a43d42e7f9409eaf9bcea53793fb49c2f81b", func := "medlar/medlarlaw01.NodePaths", spec := "nodePaths", apart := false, narrowed := true }
def NodePathsUptoSaid : Prop := nodePathsUptoRow.holds Try.pinned (OpenSpec.upto nodePathsSpec)

/-- 'medlarlaw01.NodeOther', WHERE WHAT IT READS IS OF BULK AT MOST 1048576: true; the input reads as it did. -/
def nodeOtherUptoRow : OpenClaim := { program := "ytonjdnjeemcilaa", sum := "f12ad7373850bd4a9cee11903077a43d42e7f9409eaf9bcea53793fb49c2f81b", func := "medlar/medlarlaw01.NodeOther", spec := "nodeOther", apart := false, narrowed := true }
def NodeOtherUptoSaid : Prop := nodeOtherUptoRow.holds Try.pinned (OpenSpec.upto nodeOtherSpec)

/-- 'medlarlaw01.NodeLeaf', WHERE WHAT IT READS IS OF BULK AT MOST 1048576: true; the input reads as it did. -/
def nodeLeafUptoRow : OpenClaim := { program := "ytonjdnjeemcilaa", sum := "f12ad7373850bd4a9cee11903077a43d42e7f9409eaf9bcea53793fb49c2f81b", func := "medlar/medlarlaw01.NodeLeaf", spec := "nodeLeaf", apart := false, narrowed := true }
def NodeLeafUptoSaid : Prop := nodeLeafUptoRow.holds Try.pinned (OpenSpec.upto nodeLeafSpec)

end Rows
end Go.Proofs.Ytonjdnjeemcilaa
