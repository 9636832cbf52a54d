/-
  No cell of these rows narrows 'for every input' (looked for: loops, veiled, ifaces, maps, wideKeys, modest, calm, conditions, laid).
  DERIVED. THE GIVEN ROWS OF THIS SEAT. 5 by the template 'for every input the law returns true; each argument reads behind the call as it read before'; 0 by the template 'total and deterministic' (their statements: YthmiekinjfaflaaTotals.lean).
  GIVEN WITH THE SEED: the statements are not yours to turn. If you find one false, say at which input.
  Laid BY PROGRAM, IN A SANDBOX (cutbox-rows.mjs): the forced cells as the released guide's own fill.sh prints them over the translation 7a71df908d8523bd… (all of the seat's roots in one cut). By AI agents, Wed Nov 11 2026. No macro, syntax, notation, axiom, sorry.
-/
import Derived.Test.YthmiekinjfaflaaChecked
import GoSem.Claim
import GoSem.ClaimJoined
import GoSem.ClaimMapViews
import Derived.JoinedTies
import Derived.KernelRfl
namespace Go.Proofs.Ythmiekinjfaflaa
/- THE CELL 'sum', in the pinned program and in every row, IS THE sha256 OF THE DUMP (.gsa) THAT YthmiekinjfaflaaProg.lean LOADS. Nothing in Lean hashes anything: it is a label: what it is worth is what the hold of that sum in a sandbox is worth. -/
noncomputable def Try.pinned : Pinned := { name := "ythmiekinjfaflaa", sum := "7a71df908d8523bd812a30f91b44b66e0d4f905840352e8c943d8242f31a3db9", checked := Try.checked }
namespace Rows
def none {H : Type} : Left H := { results := [], args := [] }

/-- 'medlarlaw14.StorePairs': WHATEVER THE INPUT: true; the input reads as it did. -/
def storePairsSpec : ChangeSpec := { name := "storePairs", fn := fun _ => fun
  | [d1, d2, d3] => { results := [.lit (.bool true)], args := [d1, d2, d3] }
  | _ => none }
def storePairsRow : OpenClaim := { program := "ythmiekinjfaflaa", sum := "7a71df908d8523bd812a30f91b44b66e0d4f905840352e8c943d8242f31a3db9", func := "medlar/medlarlaw14.StorePairs", spec := "storePairs", recurses := true, plainKeys := false, apart := false }
def StorePairsSaid : Prop := storePairsRow.holds Try.pinned (OpenSpec.ofChange storePairsSpec)

/-- ITS FALSE NEIGHBOUR: 'it returns false'. Refute it at one input. -/
def storePairsWrong : ChangeSpec := { name := "storePairs", fn := fun _ => fun
  | [d1, d2, d3] => { results := [.lit (.bool false)], args := [d1, d2, d3] }
  | _ => none }
def StorePairsWrongFalsely : Prop := storePairsRow.holds Try.pinned (OpenSpec.ofChange storePairsWrong)

/-- 'medlarlaw14.StoreMany': WHATEVER THE INPUT: true; the input reads as it did. -/
def storeManySpec : ChangeSpec := { name := "storeMany", fn := fun _ => fun
  | [d1, d2, d3] => { results := [.lit (.bool true)], args := [d1, d2, d3] }
  | _ => none }
def storeManyRow : OpenClaim := { program := "ythmiekinjfaflaa", sum := "7a71df908d8523bd812a30f91b44b66e0d4f905840352e8c943d8242f31a3db9", func := "medlar/medlarlaw14.StoreMany", spec := "storeMany", plainKeys := false, apart := false }
def StoreManySaid : Prop := storeManyRow.holds Try.pinned (OpenSpec.ofChange storeManySpec)

/-- ITS FALSE NEIGHBOUR: 'it returns false'. Refute it at one input. -/
def storeManyWrong : ChangeSpec := { name := "storeMany", fn := fun _ => fun
  | [d1, d2, d3] => { results := [.lit (.bool false)], args := [d1, d2, d3] }
  | _ => none }
def StoreManyWrongFalsely : Prop := storeManyRow.holds Try.pinned (OpenSpec.ofChange storeManyWrong)

/-- 'medlarlaw14.StoreIn': WHATEVER THE INPUT: true; the input reads as it did. -/
def storeInSpec : ChangeSpec := { name := "storeIn", fn := fun _ => fun
  | [d1, d2, d3, d4] => { results := [.lit (.bool true)], args := [d1, d2, d3, d4] }
  | _ => none }
def storeInRow : OpenClaim := { program := "ythmiekinjfaflaa", sum := "7a71df908d8523bd812a30f91b44b66e0d4f905840352e8c943d8242f31a3db9", func := "medlar/medlarlaw14.StoreIn", spec := "storeIn", unfollowed := true, recurses := true, plainKeys := false, apart := false }
def StoreInSaid : Prop := storeInRow.holds Try.pinned (OpenSpec.ofChange storeInSpec)

/-- ITS FALSE NEIGHBOUR: 'it returns false'. Refute it at one input. -/
def storeInWrong : ChangeSpec := { name := "storeIn", fn := fun _ => fun
  | [d1, d2, d3, d4] => { results := [.lit (.bool false)], args := [d1, d2, d3, d4] }
  | _ => none }
def StoreInWrongFalsely : Prop := storeInRow.holds Try.pinned (OpenSpec.ofChange storeInWrong)

/-- 'medlarlaw14.StoreMay': WHATEVER THE INPUT: true; the input reads as it did. -/
def storeMaySpec : ChangeSpec := { name := "storeMay", fn := fun _ => fun
  | [d1, d2, d3, d4] => { results := [.lit (.bool true)], args := [d1, d2, d3, d4] }
  | _ => none }
def storeMayRow : OpenClaim := { program := "ythmiekinjfaflaa", sum := "7a71df908d8523bd812a30f91b44b66e0d4f905840352e8c943d8242f31a3db9", func := "medlar/medlarlaw14.StoreMay", spec := "storeMay", unfollowed := true, recurses := true, plainKeys := false, apart := false }
def StoreMaySaid : Prop := storeMayRow.holds Try.pinned (OpenSpec.ofChange storeMaySpec)

/-- ITS FALSE NEIGHBOUR: 'it returns false'. Refute it at one input. -/
def storeMayWrong : ChangeSpec := { name := "storeMay", fn := fun _ => fun
  | [d1, d2, d3, d4] => { results := [.lit (.bool false)], args := [d1, d2, d3, d4] }
  | _ => none }
def StoreMayWrongFalsely : Prop := storeMayRow.holds Try.pinned (OpenSpec.ofChange storeMayWrong)

/-- 'medlarlaw14.StoreTwo': WHATEVER THE INPUT: true; the input reads as it did. -/
def storeTwoSpec : ChangeSpec := { name := "storeTwo", fn := fun _ => fun
  | [d1, d2, d3, d4] => { results := [.lit (.bool true)], args := [d1, d2, d3, d4] }
  | _ => none }
def storeTwoRow : OpenClaim := { program := "ythmiekinjfaflaa", sum := "7a71df908d8523bd812a30f91b44b66e0d4f905840352e8c943d8242f31a3db9", func := "medlar/medlarlaw14.StoreTwo", spec := "storeTwo", unfollowed := true, recurses := true, plainKeys := false, apart := false }
def StoreTwoSaid : Prop := storeTwoRow.holds Try.pinned (OpenSpec.ofChange storeTwoSpec)

/-- ITS FALSE NEIGHBOUR: 'it returns false'. Refute it at one input. -/
def storeTwoWrong : ChangeSpec := { name := "storeTwo", fn := fun _ => fun
  | [d1, d2, d3, d4] => { results := [.lit (.bool false)], args := [d1, d2, d3, d4] }
  | _ => none }
def StoreTwoWrongFalsely : Prop := storeTwoRow.holds Try.pinned (OpenSpec.ofChange storeTwoWrong)

/- THE SECOND FORM. 'bulk': how many values and letters a reading holds, each counted each time it is reached (what is shared counts as often as it is met; a slice's spare places count too). A statement '..UptoSaid' is the law's where the arguments, and the package variables that the reading takes, are together of bulk at most 1048576: NARROWER than '..Said'. Prove '..Said' where nothing that the law and all that it calls make is longer than what came in: it says more and counts as full. Else prove '..UptoSaid'. A law counts once. -/
mutual
def uptoBulk {H : Type} : DataW H → Nat
  | .lit (.string bytes) => bytes.length + 1
  | .lit _ => 1
  | .nil => 1
  | .ptr d => uptoBulk d + 1
  | .slice elems spare => uptoBulkAll elems + uptoBulkAll spare + 1
  | .agg parts => uptoBulkAll parts + 1
  | .iface _ d => uptoBulk d + 1
  | .map entries => uptoBulkEntries entries + 1
  | .held _ => 1
def uptoBulkAll {H : Type} : List (DataW H) → Nat
  | [] => 0
  | d :: r => uptoBulk d + uptoBulkAll r
def uptoBulkEntries {H : Type} : List (Lit × DataW H) → Nat
  | [] => 0
  | x :: r => uptoBulkEntry x + uptoBulkEntries r
def uptoBulkEntry {H : Type} : Lit × DataW H → Nat
  | (.string bytes, d) => bytes.length + uptoBulk d + 1
  | (_, d) => uptoBulk d + 1
 end
def uptoSmall : (H : Type) → List (DataW H) → Bool := fun _ ds => decide (uptoBulkAll ds ≤ 1048576)
def OpenSpec.upto (s : _root_.Go.ChangeSpec) : _root_.Go.OpenSpec := { _root_.Go.OpenSpec.ofChange s with cond := some uptoSmall }

/-- 'medlarlaw14.StorePairs', WHERE WHAT IT READS IS OF BULK AT MOST 1048576: true; the input reads as it did. -/
def storePairsUptoRow : OpenClaim := { program := "ythmiekinjfaflaa", sum := "7a71df908d8523bd812a30f91b44b66e0d4f905840352e8c943d8242f31a3db9", func := "medlar/medlarlaw14.StorePairs", spec := "storePairs", recurses := true, plainKeys := false, apart := false, narrowed := true }
def StorePairsUptoSaid : Prop := storePairsUptoRow.holds Try.pinned (OpenSpec.upto storePairsSpec)

/-- 'medlarlaw14.StoreMany', WHERE WHAT IT READS IS OF BULK AT MOST 1048576: true; the input reads as it did. -/
def storeManyUptoRow : OpenClaim := { program := "ythmiekinjfaflaa", sum := "7a71df908d8523bd812a30f91b44b66e0d4f905840352e8c943d8242f31a3db9", func := "medlar/medlarlaw14.StoreMany", spec := "storeMany", plainKeys := false, apart := false, narrowed := true }
def StoreManyUptoSaid : Prop := storeManyUptoRow.holds Try.pinned (OpenSpec.upto storeManySpec)

/-- 'medlarlaw14.StoreIn', WHERE WHAT IT READS IS OF BULK AT MOST 1048576: true; the input reads as it did. -/
def storeInUptoRow : OpenClaim := { program := "ythmiekinjfaflaa", sum := "7a71df908d8523bd812a30f91b44b66e0d4f905840352e8c943d8242f31a3db9", func := "medlar/medlarlaw14.StoreIn", spec := "storeIn", unfollowed := true, recurses := true, plainKeys := false, apart := false, narrowed := true }
def StoreInUptoSaid : Prop := storeInUptoRow.holds Try.pinned (OpenSpec.upto storeInSpec)

/-- 'medlarlaw14.StoreMay', WHERE WHAT IT READS IS OF BULK AT MOST 1048576: true; the input reads as it did. -/
def storeMayUptoRow : OpenClaim := { program := "ythmiekinjfaflaa", sum := "7a71df908d8523bd812a30f91b44b66e0d4f905840352e8c943d8242f31a3db9", func := "medlar/medlarlaw14.StoreMay", spec := "storeMay", unfollowed := true, recurses := true, plainKeys := false, apart := false, narrowed := true }
def StoreMayUptoSaid : Prop := storeMayUptoRow.holds Try.pinned (OpenSpec.upto storeMaySpec)

/-- 'medlarlaw14.StoreTwo', WHERE WHAT IT READS IS OF BULK AT MOST 1048576: true; the input reads as it did. -/
def storeTwoUptoRow : OpenClaim := { program := "ythmiekinjfaflaa", sum := "7a71df908d8523bd812a30f91b44b66e0d4f905840352e8c943d8242f31a3db9", func := "medlar/medlarlaw14.StoreTwo", spec := "storeTwo", unfollowed := true, recurses := true, plainKeys := false, apart := false, narrowed := true }
def StoreTwoUptoSaid : Prop := storeTwoUptoRow.holds Try.pinned (OpenSpec.upto storeTwoSpec)

end Rows
end Go.Proofs.Ythmiekinjfaflaa
