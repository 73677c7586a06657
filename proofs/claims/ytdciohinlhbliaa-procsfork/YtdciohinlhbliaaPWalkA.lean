
/-
  What path.inNames and path.Name answer.
-/
import Derived.Test.YtdciohinlhbliaaPPlain
import Derived.Test.YtdciohinlhbliaaProg
import Derived.WalkKit
import Derived.WalkSpells
import Derived.Laws.Externs
import Derived.WalkLawsBesides
import Derived.Below
import Derived.Lib.Walk
import Derived.Lib.Strings
namespace Go.Proofs.Ytdciohinlhbliaa
open Go.RowKit
def inNn (n : Nat) : Bool := decide ((97 ≤ n ∧ n ≤ 122) ∨ (48 ≤ n ∧ n ≤ 57) ∨ n = 46 ∨ n = 95)
theorem toList_beq (s : ByteArray) (l : List UInt8) : (s.toList == l) = decide (s.data.toList = l) := by
  rw [ByteArray.toList_eq, Bool.eq_iff_iff, beq_iff_eq, decide_eq_true_eq]
theorem toList_bne (s : ByteArray) (l : List UInt8) : (s.toList != l) = !decide (s.data.toList = l) := by
  rw [bne, toList_beq]
theorem size_list (s : ByteArray) : s.size = s.data.toList.length := by rw [Array.length_toList]; rfl
theorem take_snoc (s : ByteArray) (k : Nat) (h : k < s.size) : s.data.toList.take (k + 1) = s.data.toList.take k ++ [s[k]] := by
  rw [List.take_succ_eq_append_getElem (by simpa using h)]; rfl
theorem inN_at (c : UInt8) : Pt.inN c = inNn c.toNat := rfl
theorem all_false {l : List UInt8} {c : UInt8} (hm : c ∈ l) (h : Pt.inN c = false) : l.all Pt.inN = false := by
  cases e : l.all Pt.inN with
  | false => rfl
  | true => rw [List.all_eq_true.1 e c hm] at h; cases h
end Go.Proofs.Ytdciohinlhbliaa
