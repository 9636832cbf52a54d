/-
  No cell of these rows narrows 'for every input' (looked for: loops, veiled, ifaces, maps, wideKeys, modest, calm, conditions, laid).
  DERIVED. THE GIVEN ROWS OF THIS SEAT. 6 by the template 'for every input the law returns true; each argument reads behind the call as it read before'; 0 by the template 'total and deterministic' (their statements: YthmiieiajfghnaaTotals.lean).
  GIVEN WITH THE SEED: the statements are not yours to turn. If you find one false, say at which input.
  Laid BY PROGRAM, IN A SANDBOX (cutbox-rows.mjs): the forced cells as the released guide's own fill.sh prints them over the translation 62984b1521a81f59… (all of the seat's roots in one cut). By AI agents, Wed Nov 11 2026. No macro, syntax, notation, axiom, sorry.
-/
import Derived.Test.YthmiieiajfghnaaChecked
import GoSem.Claim
import GoSem.ClaimJoined
import GoSem.ClaimMapViews
import Derived.JoinedTies
import Derived.KernelRfl
namespace Go.Proofs.Ythmiieiajfghnaa
/- THE CELL 'sum', in the pinned program and in every row, IS THE sha256 OF THE DUMP (.gsa) THAT YthmiieiajfghnaaProg.lean LOADS. Nothing in Lean hashes anything: it is a label: what it is worth is what the hold of that sum in a sandbox is worth. -/
noncomputable def Try.pinned : Pinned := { name := "ythmiieiajfghnaa", sum := "62984b1521a81f59f98dc9a541c90805a2978ba9b19d92d58c791ae7dd37c355", checked := Try.checked }
namespace Rows
def none {H : Type} : Left H := { results := [], args := [] }

/-- 'medlarlaw09.SteinerDoes': WHATEVER THE INPUT: true; the input reads as it did. -/
def steinerDoesSpec : ChangeSpec := { name := "steinerDoes", fn := fun _ => fun
  | [d1, d2, d3] => { results := [.lit (.bool true)], args := [d1, d2, d3] }
  | _ => none }
def steinerDoesRow : OpenClaim := { program := "ythmiieiajfghnaa", sum := "62984b1521a81f59f98dc9a541c90805a2978ba9b19d92d58c791ae7dd37c355", func := "medlar/medlarlaw09.SteinerDoes", spec := "steinerDoes", unfollowed := true, recurses := true, apart := false }
def SteinerDoesSaid : Prop := steinerDoesRow.holds Try.pinned (OpenSpec.ofChange steinerDoesSpec)

/-- ITS FALSE NEIGHBOUR: 'it returns false'. Refute it at one input. -/
def steinerDoesWrong : ChangeSpec := { name := "steinerDoes", fn := fun _ => fun
  | [d1, d2, d3] => { results := [.lit (.bool false)], args := [d1, d2, d3] }
  | _ => none }
def SteinerDoesWrongFalsely : Prop := steinerDoesRow.holds Try.pinned (OpenSpec.ofChange steinerDoesWrong)

/-- 'medlarlaw09.SteinerForks': WHATEVER THE INPUT: true; the input reads as it did. -/
def steinerForksSpec : ChangeSpec := { name := "steinerForks", fn := fun _ => fun
  | [d1, d2, d3] => { results := [.lit (.bool true)], args := [d1, d2, d3] }
  | _ => none }
def steinerForksRow : OpenClaim := { program := "ythmiieiajfghnaa", sum := "62984b1521a81f59f98dc9a541c90805a2978ba9b19d92d58c791ae7dd37c355", func := "medlar/medlarlaw09.SteinerForks", spec := "steinerForks", unfollowed := true, recurses := true, apart := false }
def SteinerForksSaid : Prop := steinerForksRow.holds Try.pinned (OpenSpec.ofChange steinerForksSpec)

/-- ITS FALSE NEIGHBOUR: 'it returns false'. Refute it at one input. -/
def steinerForksWrong : ChangeSpec := { name := "steinerForks", fn := fun _ => fun
  | [d1, d2, d3] => { results := [.lit (.bool false)], args := [d1, d2, d3] }
  | _ => none }
def SteinerForksWrongFalsely : Prop := steinerForksRow.holds Try.pinned (OpenSpec.ofChange steinerForksWrong)

/-- 'medlarlaw09.SteinerHang': WHATEVER THE INPUT: true; the input reads as it did. -/
def steinerHangSpec : ChangeSpec := { name := "steinerHang", fn := fun _ => fun
  | [d1, d2, d3] => { results := [.lit (.bool true)], args := [d1, d2, d3] }
  | _ => none }
def steinerHangRow : OpenClaim := { program := "ythmiieiajfghnaa", sum := "62984b1521a81f59f98dc9a541c90805a2978ba9b19d92d58c791ae7dd37c355", func := "medlar/medlarlaw09.SteinerHang", spec := "steinerHang", unfollowed := true, recurses := true, apart := false }
def SteinerHangSaid : Prop := steinerHangRow.holds Try.pinned (OpenSpec.ofChange steinerHangSpec)

/-- ITS FALSE NEIGHBOUR: 'it returns false'. Refute it at one input. -/
def steinerHangWrong : ChangeSpec := { name := "steinerHang", fn := fun _ => fun
  | [d1, d2, d3] => { results := [.lit (.bool false)], args := [d1, d2, d3] }
  | _ => none }
def SteinerHangWrongFalsely : Prop := steinerHangRow.holds Try.pinned (OpenSpec.ofChange steinerHangWrong)

/-- 'medlarlaw09.SteinerMany': WHATEVER THE INPUT: true; the input reads as it did. -/
def steinerManySpec : ChangeSpec := { name := "steinerMany", fn := fun _ => fun
  | [d1, d2] => { results := [.lit (.bool true)], args := [d1, d2] }
  | _ => none }
def steinerManyRow : OpenClaim := { program := "ythmiieiajfghnaa", sum := "62984b1521a81f59f98dc9a541c90805a2978ba9b19d92d58c791ae7dd37c355", func := "medlar/medlarlaw09.SteinerMany", spec := "steinerMany", unfollowed := true, recurses := true, apart := false }
def SteinerManySaid : Prop := steinerManyRow.holds Try.pinned (OpenSpec.ofChange steinerManySpec)

/-- ITS FALSE NEIGHBOUR: 'it returns false'. Refute it at one input. -/
def steinerManyWrong : ChangeSpec := { name := "steinerMany", fn := fun _ => fun
  | [d1, d2] => { results := [.lit (.bool false)], args := [d1, d2] }
  | _ => none }
def SteinerManyWrongFalsely : Prop := steinerManyRow.holds Try.pinned (OpenSpec.ofChange steinerManyWrong)

/-- 'medlarlaw09.SteinerDown': WHATEVER THE INPUT: true; the input reads as it did. -/
def steinerDownSpec : ChangeSpec := { name := "steinerDown", fn := fun _ => fun
  | [d1, d2, d3, d4] => { results := [.lit (.bool true)], args := [d1, d2, d3, d4] }
  | _ => none }
def steinerDownRow : OpenClaim := { program := "ythmiieiajfghnaa", sum := "62984b1521a81f59f98dc9a541c90805a2978ba9b19d92d58c791ae7dd37c355", func := "medlar/medlarlaw09.SteinerDown", spec := "steinerDown", unfollowed := true, recurses := true, apart := false }
def SteinerDownSaid : Prop := steinerDownRow.holds Try.pinned (OpenSpec.ofChange steinerDownSpec)

/-- ITS FALSE NEIGHBOUR: 'it returns false'. Refute it at one input. -/
def steinerDownWrong : ChangeSpec := { name := "steinerDown", fn := fun _ => fun
  | [d1, d2, d3, d4] => { results := [.lit (.bool false)], args := [d1, d2, d3, d4] }
  | _ => none }
def SteinerDownWrongFalsely : Prop := steinerDownRow.holds Try.pinned (OpenSpec.ofChange steinerDownWrong)

/-- 'medlarlaw09.SteinerAbove': WHATEVER THE INPUT: true; the input reads as it did. -/
def steinerAboveSpec : ChangeSpec := { name := "steinerAbove", fn := fun _ => fun
  | [d1, d2, d3, d4] => { results := [.lit (.bool true)], args := [d1, d2, d3, d4] }
  | _ => none }
def steinerAboveRow : OpenClaim := { program := "ythmiieiajfghnaa", sum := "62984b1521a81f59f98dc9a541c90805a2978ba9b19d92d58c791ae7dd37c355", func := "medlar/medlarlaw09.SteinerAbove", spec := "steinerAbove", unfollowed := true, recurses := true, apart := false }
def SteinerAboveSaid : Prop := steinerAboveRow.holds Try.pinned (OpenSpec.ofChange steinerAboveSpec)

/-- ITS FALSE NEIGHBOUR: 'it returns false'. Refute it at one input. -/
def steinerAboveWrong : ChangeSpec := { name := "steinerAbove", fn := fun _ => fun
  | [d1, d2, d3, d4] => { results := [.lit (.bool false)], args := [d1, d2, d3, d4] }
  | _ => none }
def SteinerAboveWrongFalsely : Prop := steinerAboveRow.holds Try.pinned (OpenSpec.ofChange steinerAboveWrong)

/- THE SECOND FORM. 'bulk': how many values and letters a reading holds, each counted each time it is reached (what is shared counts as often as it is met; a slice's spare places count too). A statement '..UptoSaid' is the law's where the arguments, and the package variables that the reading takes, are together of bulk at most 1048576: NARROWER than '..Said'. Prove '..Said' where nothing that the law and all that it calls make is longer than what came in: it says more and counts as full. Else prove '..UptoSaid'. A law counts once. -/
mutual
def uptoBulk {H : Type} : DataW H → Nat
  | .lit (.string bytes) => bytes.length + 1
  | .lit _ => 1
  | .nil => 1
  | .ptr d => uptoBulk d + 1
  | .slice elems spare => uptoBulkAll elems + uptoBulkAll spare + 1
  | .agg parts => uptoBulkAll parts + 1
  | .iface _ d => uptoBulk d + 1
  | .map entries => uptoBulkEntries entries + 1
  | .held _ => 1
def uptoBulkAll {H : Type} : List (DataW H) → Nat
  | [] => 0
  | d :: r => uptoBulk d + uptoBulkAll r
def uptoBulkEntries {H : Type} : List (Lit × DataW H) → Nat
  | [] => 0
  | x :: r => uptoBulkEntry x + uptoBulkEntries r
def uptoBulkEntry {H : Type} : Lit × DataW H → Nat
  | (.string bytes, d) => bytes.length + uptoBulk d + 1
  | (_, d) => uptoBulk d + 1
 end
def uptoSmall : (H : Type) → List (DataW H) → Bool := fun _ ds => decide (uptoBulkAll ds ≤ 1048576)
def OpenSpec.upto (s : _root_.Go.ChangeSpec) : _root_.Go.OpenSpec := { _root_.Go.OpenSpec.ofChange s with cond := some uptoSmall }

/-- 'medlarlaw09.SteinerDoes', WHERE WHAT IT READS IS OF BULK AT MOST 1048576: true; the input reads as it did. -/
def steinerDoesUptoRow : OpenClaim := { program := "ythmiieiajfghnaa", sum := "62984b1521a81f59f98dc9a541c90805a2978ba9b19d92d58c791ae7dd37c355", func := "medlar/medlarlaw09.SteinerDoes", spec := "steinerDoes", unfollowed := true, recurses := true, apart := false, narrowed := true }
def SteinerDoesUptoSaid : Prop := steinerDoesUptoRow.holds Try.pinned (OpenSpec.upto steinerDoesSpec)

/-- 'medlarlaw09.SteinerForks', WHERE WHAT IT READS IS OF BULK AT MOST 1048576: true; the input reads as it did. -/
def steinerForksUptoRow : OpenClaim := { program := "ythmiieiajfghnaa", sum := "62984b1521a81f59f98dc9a541c90805a2978ba9b19d92d58c791ae7dd37c355", func := "medlar/medlarlaw09.SteinerForks", spec := "steinerForks", unfollowed := true, recurses := true, apart := false, narrowed := true }
def SteinerForksUptoSaid : Prop := steinerForksUptoRow.holds Try.pinned (OpenSpec.upto steinerForksSpec)

/-- 'medlarlaw09.SteinerHang', WHERE WHAT IT READS IS OF BULK AT MOST 1048576: true; the input reads as it did. -/
def steinerHangUptoRow : OpenClaim := { program := "ythmiieiajfghnaa", sum := "62984b1521a81f59f98dc9a541c90805a2978ba9b19d92d58c791ae7dd37c355", func := "medlar/medlarlaw09.SteinerHang", spec := "steinerHang", unfollowed := true, recurses := true, apart := false, narrowed := true }
def SteinerHangUptoSaid : Prop := steinerHangUptoRow.holds Try.pinned (OpenSpec.upto steinerHangSpec)

/-- 'medlarlaw09.SteinerMany', WHERE WHAT IT READS IS OF BULK AT MOST 1048576: true; the input reads as it did. -/
def steinerManyUptoRow : OpenClaim := { program := "ythmiieiajfghnaa", sum := "62984b1521a81f59f98dc9a541c90805a2978ba9b19d92d58c791ae7dd37c355", func := "medlar/medlarlaw09.SteinerMany", spec := "steinerMany", unfollowed := true, recurses := true, apart := false, narrowed := true }
def SteinerManyUptoSaid : Prop := steinerManyUptoRow.holds Try.pinned (OpenSpec.upto steinerManySpec)

/-- 'medlarlaw09.SteinerDown', WHERE WHAT IT READS IS OF BULK AT MOST 1048576: true; the input reads as it did. -/
def steinerDownUptoRow : OpenClaim := { program := "ythmiieiajfghnaa", sum := "62984b1521a81f59f98dc9a541c90805a2978ba9b19d92d58c791ae7dd37c355", func := "medlar/medlarlaw09.SteinerDown", spec := "steinerDown", unfollowed := true, recurses := true, apart := false, narrowed := true }
def SteinerDownUptoSaid : Prop := steinerDownUptoRow.holds Try.pinned (OpenSpec.upto steinerDownSpec)

/-- 'medlarlaw09.SteinerAbove', WHERE WHAT IT READS IS OF BULK AT MOST 1048576: true; the input reads as it did. -/
def steinerAboveUptoRow : OpenClaim := { program := "ythmiieiajfghnaa", sum := "62984b1521a81f59f98dc9a541c90805a2978ba9b19d92d58c791ae7dd37c355", func := "medlar/medlarlaw09.SteinerAbove", spec := "steinerAbove", unfollowed := true, recurses := true, apart := false, narrowed := true }
def SteinerAboveUptoSaid : Prop := steinerAboveUptoRow.holds Try.pinned (OpenSpec.upto steinerAboveSpec)

end Rows
end Go.Proofs.Ythmiieiajfghnaa
