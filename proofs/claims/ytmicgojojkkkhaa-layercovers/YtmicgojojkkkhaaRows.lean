/-
  No cell of these rows narrows 'for every input' (looked for: loops, veiled, ifaces, maps, wideKeys, modest, calm, conditions, laid).
  DERIVED. THE GIVEN ROWS OF THIS SEAT. 5 by the template 'for every input the law returns true; each argument reads behind the call as it read before'; 0 by the template 'total and deterministic' (their statements: YtmicgojojkkkhaaTotals.lean).
  GIVEN WITH THE SEED: the statements are not yours to turn. If you find one false, say at which input.
  Laid BY PROGRAM, IN A SANDBOX (cutbox-rows.mjs): the forced cells as the released guide's own fill.sh prints them over the translation 7a7c3a77a0ce707a… (all of the seat's roots in one cut). By AI agents, Wed Nov 11 2026. No macro, syntax, notation, axiom, sorry.
-/
import Derived.Test.YtmicgojojkkkhaaChecked
import GoSem.Claim
import GoSem.ClaimJoined
import GoSem.ClaimMapViews
import Derived.JoinedTies
import Derived.KernelRfl
namespace Go.Proofs.Ytmicgojojkkkhaa
/- THE CELL 'sum', in the pinned program and in every row, IS THE sha256 OF THE DUMP (.gsa) THAT YtmicgojojkkkhaaProg.lean LOADS. Nothing in Lean hashes anything: it is a label: what it is worth is what the hold of that sum in a sandbox is worth. -/
noncomputable def Try.pinned : Pinned := { name := "ytmicgojojkkkhaa", sum := "7a7c3a77a0ce707abd7f61044b15697de0d648a16967eb39400f3782595ff203", checked := Try.checked }
namespace Rows
def none {H : Type} : Left H := { results := [], args := [] }

/-- 'medlarlaw12.LayerOrder': WHATEVER THE INPUT: true; the input reads as it did. -/
def layerOrderSpec : ChangeSpec := { name := "layerOrder", fn := fun _ => fun
  | [d] => { results := [.lit (.bool true)], args := [d] }
  | _ => none }
def layerOrderRow : OpenClaim := { program := "ytmicgojojkkkhaa", sum := "7a7c3a77a0ce707abd7f61044b15697de0d648a16967eb39400f3782595ff203", func := "medlar/medlarlaw12.LayerOrder", spec := "layerOrder", unfollowed := true, recurses := true, apart := false }
def LayerOrderSaid : Prop := layerOrderRow.holds Try.pinned (OpenSpec.ofChange layerOrderSpec)

/-- ITS FALSE NEIGHBOUR: 'it returns false'. Refute it at one input. -/
def layerOrderWrong : ChangeSpec := { name := "layerOrder", fn := fun _ => fun
  | [d] => { results := [.lit (.bool false)], args := [d] }
  | _ => none }
def LayerOrderWrongFalsely : Prop := layerOrderRow.holds Try.pinned (OpenSpec.ofChange layerOrderWrong)

/-- 'medlarlaw12.LayerCovers': WHATEVER THE INPUT: true; the input reads as it did. -/
def layerCoversSpec : ChangeSpec := { name := "layerCovers", fn := fun _ => fun
  | [d1, d2, d3, d4] => { results := [.lit (.bool true)], args := [d1, d2, d3, d4] }
  | _ => none }
def layerCoversRow : OpenClaim := { program := "ytmicgojojkkkhaa", sum := "7a7c3a77a0ce707abd7f61044b15697de0d648a16967eb39400f3782595ff203", func := "medlar/medlarlaw12.LayerCovers", spec := "layerCovers", unfollowed := true, recurses := true, apart := false }
def LayerCoversSaid : Prop := layerCoversRow.holds Try.pinned (OpenSpec.ofChange layerCoversSpec)

/-- ITS FALSE NEIGHBOUR: 'it returns false'. Refute it at one input. -/
def layerCoversWrong : ChangeSpec := { name := "layerCovers", fn := fun _ => fun
  | [d1, d2, d3, d4] => { results := [.lit (.bool false)], args := [d1, d2, d3, d4] }
  | _ => none }
def LayerCoversWrongFalsely : Prop := layerCoversRow.holds Try.pinned (OpenSpec.ofChange layerCoversWrong)

/-- 'medlarlaw12.LayerParts': WHATEVER THE INPUT: true; the input reads as it did. -/
def layerPartsSpec : ChangeSpec := { name := "layerParts", fn := fun _ => fun
  | [d1, d2] => { results := [.lit (.bool true)], args := [d1, d2] }
  | _ => none }
def layerPartsRow : OpenClaim := { program := "ytmicgojojkkkhaa", sum := "7a7c3a77a0ce707abd7f61044b15697de0d648a16967eb39400f3782595ff203", func := "medlar/medlarlaw12.LayerParts", spec := "layerParts", unfollowed := true, recurses := true, apart := false }
def LayerPartsSaid : Prop := layerPartsRow.holds Try.pinned (OpenSpec.ofChange layerPartsSpec)

/-- ITS FALSE NEIGHBOUR: 'it returns false'. Refute it at one input. -/
def layerPartsWrong : ChangeSpec := { name := "layerParts", fn := fun _ => fun
  | [d1, d2] => { results := [.lit (.bool false)], args := [d1, d2] }
  | _ => none }
def LayerPartsWrongFalsely : Prop := layerPartsRow.holds Try.pinned (OpenSpec.ofChange layerPartsWrong)

/-- 'medlarlaw12.LayerPairs': WHATEVER THE INPUT: true; the input reads as it did. -/
def layerPairsSpec : ChangeSpec := { name := "layerPairs", fn := fun _ => fun
  | [d] => { results := [.lit (.bool true)], args := [d] }
  | _ => none }
def layerPairsRow : OpenClaim := { program := "ytmicgojojkkkhaa", sum := "7a7c3a77a0ce707abd7f61044b15697de0d648a16967eb39400f3782595ff203", func := "medlar/medlarlaw12.LayerPairs", spec := "layerPairs", unfollowed := true, recurses := true, apart := false }
def LayerPairsSaid : Prop := layerPairsRow.holds Try.pinned (OpenSpec.ofChange layerPairsSpec)

/-- ITS FALSE NEIGHBOUR: 'it returns false'. Refute it at one input. -/
def layerPairsWrong : ChangeSpec := { name := "layerPairs", fn := fun _ => fun
  | [d] => { results := [.lit (.bool false)], args := [d] }
  | _ => none }
def LayerPairsWrongFalsely : Prop := layerPairsRow.holds Try.pinned (OpenSpec.ofChange layerPairsWrong)

/-- 'medlarlaw12.LayerBound': WHATEVER THE INPUT: true; the input reads as it did. -/
def layerBoundSpec : ChangeSpec := { name := "layerBound", fn := fun _ => fun
  | [d1, d2] => { results := [.lit (.bool true)], args := [d1, d2] }
  | _ => none }
def layerBoundRow : OpenClaim := { program := "ytmicgojojkkkhaa", sum := "7a7c3a77a0ce707abd7f61044b15697de0d648a16967eb39400f3782595ff203", func := "medlar/medlarlaw12.LayerBound", spec := "layerBound", unfollowed := true, recurses := true, apart := false }
def LayerBoundSaid : Prop := layerBoundRow.holds Try.pinned (OpenSpec.ofChange layerBoundSpec)

/-- ITS FALSE NEIGHBOUR: 'it returns false'. Refute it at one input. -/
def layerBoundWrong : ChangeSpec := { name := "layerBound", fn := fun _ => fun
  | [d1, d2] => { results := [.lit (.bool false)], args := [d1, d2] }
  | _ => none }
def LayerBoundWrongFalsely : Prop := layerBoundRow.holds Try.pinned (OpenSpec.ofChange layerBoundWrong)

/- THE SECOND FORM. 'bulk': how many values and letters a reading holds, each counted each time it is reached (what is shared counts as often as it is met; a slice's spare places count too). A statement '..UptoSaid' is the law's where the arguments, and the package variables that the reading takes, are together of bulk at most 1048576: NARROWER than '..Said'. Prove '..Said' where nothing that the law and all that it calls make is longer than what came in: it says more and counts as full. Else prove '..UptoSaid'. A law counts once. -/
mutual
def uptoBulk {H : Type} : DataW H → Nat
  | .lit (.string bytes) => bytes.length + 1
  | .lit _ => 1
  | .nil => 1
  | .ptr d => uptoBulk d + 1
  | .slice elems spare => uptoBulkAll elems + uptoBulkAll spare + 1
  | .agg parts => uptoBulkAll parts + 1
  | .iface _ d => uptoBulk d + 1
  | .map entries => uptoBulkEntries entries + 1
  | .held _ => 1
def uptoBulkAll {H : Type} : List (DataW H) → Nat
  | [] => 0
  | d :: r => uptoBulk d + uptoBulkAll r
def uptoBulkEntries {H : Type} : List (Lit × DataW H) → Nat
  | [] => 0
  | x :: r => uptoBulkEntry x + uptoBulkEntries r
def uptoBulkEntry {H : Type} : Lit × DataW H → Nat
  | (.string bytes, d) => bytes.length + uptoBulk d + 1
  | (_, d) => uptoBulk d + 1
 end
def uptoSmall : (H : Type) → List (DataW H) → Bool := fun _ ds => decide (uptoBulkAll ds ≤ 1048576)
def OpenSpec.upto (s : _root_.Go.ChangeSpec) : _root_.Go.OpenSpec := { _root_.Go.OpenSpec.ofChange s with cond := some uptoSmall }

/-- 'medlarlaw12.LayerOrder', WHERE WHAT IT READS IS OF BULK AT MOST 1048576: true; the input reads as it did. -/
def layerOrderUptoRow : OpenClaim := { program := "ytmicgojojkkkhaa", sum := "7a7c3a77a0ce707abd7f61044b15697de0d648a16967eb39400f3782595ff203", func := "medlar/medlarlaw12.LayerOrder", spec := "layerOrder", unfollowed := true, recurses := true, apart := false, narrowed := true }
def LayerOrderUptoSaid : Prop := layerOrderUptoRow.holds Try.pinned (OpenSpec.upto layerOrderSpec)

/-- 'medlarlaw12.LayerCovers', WHERE WHAT IT READS IS OF BULK AT MOST 1048576: true; the input reads as it did. -/
def layerCoversUptoRow : OpenClaim := { program := "ytmicgojojkkkhaa", sum := "7a7c3a77a0ce707abd7f61044b15697de0d648a16967eb39400f3782595ff203", func := "medlar/medlarlaw12.LayerCovers", spec := "layerCovers", unfollowed := true, recurses := true, apart := false, narrowed := true }
def LayerCoversUptoSaid : Prop := layerCoversUptoRow.holds Try.pinned (OpenSpec.upto layerCoversSpec)

/-- 'medlarlaw12.LayerParts', WHERE WHAT IT READS IS OF BULK AT MOST 1048576: true; the input reads as it did. -/
def layerPartsUptoRow : OpenClaim := { program := "ytmicgojojkkkhaa", sum := "7a7c3a77a0ce707abd7f61044b15697de0d648a16967eb39400f3782595ff203", func := "medlar/medlarlaw12.LayerParts", spec := "layerParts", unfollowed := true, recurses := true, apart := false, narrowed := true }
def LayerPartsUptoSaid : Prop := layerPartsUptoRow.holds Try.pinned (OpenSpec.upto layerPartsSpec)

/-- 'medlarlaw12.LayerPairs', WHERE WHAT IT READS IS OF BULK AT MOST 1048576: true; the input reads as it did. -/
def layerPairsUptoRow : OpenClaim := { program := "ytmicgojojkkkhaa", sum := "7a7c3a77a0ce707abd7f61044b15697de0d648a16967eb39400f3782595ff203", func := "medlar/medlarlaw12.LayerPairs", spec := "layerPairs", unfollowed := true, recurses := true, apart := false, narrowed := true }
def LayerPairsUptoSaid : Prop := layerPairsUptoRow.holds Try.pinned (OpenSpec.upto layerPairsSpec)

/-- 'medlarlaw12.LayerBound', WHERE WHAT IT READS IS OF BULK AT MOST 1048576: true; the input reads as it did. -/
def layerBoundUptoRow : OpenClaim := { program := "ytmicgojojkkkhaa", sum := "7a7c3a77a0ce707abd7f61044b15697de0d648a16967eb39400f3782595ff203", func := "medlar/medlarlaw12.LayerBound", spec := "layerBound", unfollowed := true, recurses := true, apart := false, narrowed := true }
def LayerBoundUptoSaid : Prop := layerBoundUptoRow.holds Try.pinned (OpenSpec.upto layerBoundSpec)

end Rows
end Go.Proofs.Ytmicgojojkkkhaa
