
/-
  store.Remove, walked.
-/
import Derived.Test.YtdciohinlhbliaaSDelete
namespace Go.Proofs.Ytdciohinlhbliaa
open Go.RowKit
theorem noDir_of {L : List Sp.Ob} {j : Nat} {o : Sp.Ob} (hj : L[j]? = some o) (hk : o.kind ≠ 0) : Sp.noDir L j = if o.kind = 2 then 0 else 11 := by
  unfold Sp.noDir
  rw [objAt_of hj hk]
end Go.Proofs.Ytdciohinlhbliaa
