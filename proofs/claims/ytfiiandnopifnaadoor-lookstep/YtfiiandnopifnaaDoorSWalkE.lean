
/-
  store.Own, walked.
-/
import Derived.Test.YtfiiandnopifnaaDoorSWalkD
namespace Go.Proofs.YtfiiandnopifnaaDoor
open Go.RowKit
end Go.Proofs.YtfiiandnopifnaaDoor
