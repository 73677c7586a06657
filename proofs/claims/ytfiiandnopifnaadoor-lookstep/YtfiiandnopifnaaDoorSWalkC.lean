
/-
  store.ownObject: a copy of an object, walked.
-/
import Derived.Test.YtfiiandnopifnaaDoorSWalkB
namespace Go.Proofs.YtfiiandnopifnaaDoor
open Go.RowKit
end Go.Proofs.YtfiiandnopifnaaDoor
