
/-
  store.noEnter, walked.
-/
import Derived.Test.YtfiiandnopifnaaDoorSWalkL
namespace Go.Proofs.YtfiiandnopifnaaDoor
open Go.RowKit
end Go.Proofs.YtfiiandnopifnaaDoor
