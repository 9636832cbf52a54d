/-
  What the document's own answer Below of layer 2 comes to. Conditions: the slice holds numbers that fit.
-/
import Derived.Test.YtnfobglaeaalfaaG2
namespace Go.Proofs.Ytnfobglaeaalfaa
open Go.RowKit
end Go.Proofs.Ytnfobglaeaalfaa
