/-
  The chapter's own example answers true. No condition.
-/
import Derived.Test.YthmiieiajfghnaaZW3
namespace Go.Proofs.Ythmiieiajfghnaa
open Go.RowKit
theorem live1 : M.leafV 3 5 = 13 := by decide +kernel
theorem live2 : M.leafE 3 5 = 0 := by decide +kernel
theorem live3 : M.meetV 3 13 12 = 6 := by decide +kernel
theorem live4 : M.eBoth 3 13 12 = 0 := by decide +kernel
end Go.Proofs.Ythmiieiajfghnaa
