
/-
  store.Enter, store.Remove refused; store.Names of what is no directory; 'greater', of texts.
-/
import Derived.Test.YtdciohinlhbliaaSNames
import Derived.Test.YtdciohinlhbliaaSIns
namespace Go.Proofs.Ytdciohinlhbliaa
open Go.RowKit
/-- 'greater', of texts, as names are held against each other. -/
theorem gtr_eq (a b : ByteArray) : (!(Op.bytesLess a.toList b.toList || a.toList == b.toList)) = decide (0 < Lib.compareBytes a.data.toList b.data.toList) := by
  rw [ByteArray.toList_eq, ByteArray.toList_eq]
  generalize a.data.toList = x
  generalize b.data.toList = y
  induction x generalizing y with
  | nil => cases y <;> simp [Op.bytesLess, Lib.compareBytes]
  | cons c x ih =>
    cases y with
    | nil => simp [Op.bytesLess, Lib.compareBytes]
    | cons d y =>
      have := ih y
      unfold Op.bytesLess Lib.compareBytes
      by_cases h1 : c < d
      · simp [h1]
      · by_cases h2 : d < c
        · have hne : c ≠ d := fun e => by subst e; exact UInt8.lt_irrefl _ h2
          simp [h1, h2, hne]
        · have hcd : c = d := UInt8.le_antisymm (UInt8.not_lt.1 h2) (UInt8.not_lt.1 h1)
          subst hcd
          simp [h1]
          simpa using this
end Go.Proofs.Ytdciohinlhbliaa
