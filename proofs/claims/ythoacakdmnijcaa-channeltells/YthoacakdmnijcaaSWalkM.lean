
/-
  store.noEnter, walked.
-/
import Derived.Test.YthoacakdmnijcaaSWalkL
namespace Go.Proofs.Ythoacakdmnijcaa
open Go.RowKit
end Go.Proofs.Ythoacakdmnijcaa
