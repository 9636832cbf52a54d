/-
  What the document's own answers Leaves, Has, Useful, Split and Same of layer 8 come to. Conditions: the numbers fit their kinds.
-/
import Derived.Test.YtedilnipfjggfaaZA4
import Derived.Test.YtedilnipfjggfaaZA6
import Derived.Deep.RegionHeld3
namespace Go.Proofs.Ytedilnipfjggfaa
open Go.RowKit
end Go.Proofs.Ytedilnipfjggfaa
