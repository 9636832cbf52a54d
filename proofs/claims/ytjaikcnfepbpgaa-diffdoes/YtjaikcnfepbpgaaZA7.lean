/-
  What the document's own answers Leaves, Has, Useful, Split and Same of layer 8 come to. Conditions: the numbers fit their kinds.
-/
import Derived.Test.YtjaikcnfepbpgaaZA3
import Derived.Test.YtjaikcnfepbpgaaZA6
import Derived.Deep.RegionHeld3
namespace Go.Proofs.Ytjaikcnfepbpgaa
open Go.RowKit
end Go.Proofs.Ytjaikcnfepbpgaa
