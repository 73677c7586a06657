
/-
  store.noEnter, walked.
-/
import Derived.Test.YtdciohinlhbliaaSWalkL
namespace Go.Proofs.Ytdciohinlhbliaa
open Go.RowKit
end Go.Proofs.Ytdciohinlhbliaa
