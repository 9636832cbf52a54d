/-
  DERIVED. GIVEN WITH THE SEED: THE CARDS: each row of YtomhccendbnamaaGreatDoorRows.lean that lists a variable, with what it lists TIED to the program's text (the seventh form; the later family's looks); each row that meets fmt, with fmt's text TOLD by the authors' own Lean function (tested against real Go, not proved from fmt's source: count such statements apart). THE CARD IS WHAT COUNTS. Prove the row's statement (the work); the ties are given (YtomhccendbnamaaGreatDoorTie.lean); close each card by the builder's one call (the guide's Derived/Test/ToyasCard.lean, 'card_holds'). Laid BY PROGRAM, IN A SANDBOX (cutbox-door.mjs). By AI agents, Wed Nov 11 2026. No macro, syntax, notation, axiom, sorry.
-/
import Derived.Test.YtomhccendbnamaaGreatDoorRows
import GoSem.ClaimSeven
namespace Go.Proofs.YtomhccendbnamaaGreatDoor
namespace Rows

/-- THE TIED CARD OF 'medlarlaw13.LabelDoes'. -/
def labelDoesCard : Claim7 := { stood := { row := labelDoesRow, standIns := [], harness := (true, "42499fb9f6622d23e5bf6e8816ff67d0908fb41a92188f3f5b2ccbdc74777052"), looks := false }, kinds := [], alts := [], laidByText := true, laidKinds := [.data, .data, .data, .data], laidTests := true, laidLooks := .later }
def LabelDoesCardSaid : Prop := Claim7.holds Tryz.pinned (.plain (OpenSpec.ofChange labelDoesSpec)) labelDoesCard

/-- THE SECOND FORM's CARD OF 'medlarlaw13.LabelDoes'. -/
def labelDoesUptoCard : Claim7 := { stood := { row := labelDoesUptoRow, standIns := [], harness := (true, "42499fb9f6622d23e5bf6e8816ff67d0908fb41a92188f3f5b2ccbdc74777052"), looks := false }, kinds := [], alts := [], laidByText := true, laidKinds := [.data, .data, .data, .data], laidTests := true, laidLooks := .later }
def LabelDoesUptoCardSaid : Prop := Claim7.holds Tryz.pinned (.plain (OpenSpec.upto labelDoesSpec)) labelDoesUptoCard
end Rows
end Go.Proofs.YtomhccendbnamaaGreatDoor
