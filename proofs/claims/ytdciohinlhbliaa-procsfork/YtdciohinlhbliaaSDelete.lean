
/-
  slices.Delete at entries, walked.
-/
import Derived.Test.YtdciohinlhbliaaSEnter
import Derived.Deep.RegionLaw
import Derived.Lib.SliceRun
namespace Go.Proofs.Ytdciohinlhbliaa
open Go.RowKit
def setL : List Value → Nat → List Value → List Value
  | l, _, [] => l
  | l, o, v :: r => setL (l.set o v) (o + 1) r
theorem setL_length : ∀ (vs : List Value) (l : List Value) (o : Nat), (setL l o vs).length = l.length
  | [], _, _ => rfl
  | v :: r, l, o => by rw [setL, setL_length r, List.length_set]
theorem setL_at : ∀ (vs : List Value) (l : List Value) (o j : Nat), o + vs.length ≤ l.length → (setL l o vs)[j]? = if o ≤ j ∧ j < o + vs.length then vs[j - o]? else l[j]?
  | [], l, o, j, _ => by rw [setL, if_neg (by simp)]
  | v :: r, l, o, j, h => by
    rw [List.length_cons] at h ⊢
    rw [setL, setL_at r (l.set o v) (o + 1) j (by rw [List.length_set]; omega)]
    by_cases h1 : o + 1 ≤ j ∧ j < o + 1 + r.length
    · rw [if_pos h1, if_pos (by omega), show j - o = (j - (o + 1)) + 1 by omega, List.getElem?_cons_succ]
    · rw [if_neg h1]
      by_cases h2 : j = o
      · subst h2
        rw [List.getElem?_set_self (by omega), if_pos (by omega), Nat.sub_self, List.getElem?_cons_zero]
      · rw [List.getElem?_set_ne (by omega), if_neg (by omega)]
theorem Blk.sets : ∀ (vs : List Value) {w : World} {g : Nat} {l : List Value} {t : TypeId} (o : Nat), Blk w g l.toArray t → Blk (w.setCells g o vs) g (setL l o vs).toArray t
  | [], _, _, _, _, _, h => h
  | v :: r, w, g, l, t, o, h => by
    rw [World.setCells, setL]
    refine Blk.sets r (o + 1) ?_
    have := h.set o v
    rw [List.setIfInBounds_toArray] at this
    exact this
theorem On.sets : ∀ (vs : List Value) (w : World) (g o : Nat), On (fun b => b ≠ g) w (w.setCells g o vs)
  | [], _, _, _ => fun _ _ => rfl
  | v :: r, w, g, o => (On.set w ⟨g, o, none⟩ v).trans (On.sets r _ g (o + 1))
theorem size_sets : ∀ (vs : List Value) (w : World) (g o : Nat), (w.setCells g o vs).heap.size = w.heap.size
  | [], _, _, _ => rfl
  | v :: r, w, g, o => by rw [World.setCells, size_sets r]; simp
theorem Below.sets {B : Nat} : ∀ (vs : List Value) {a w : World} {g : Nat} (o : Nat), Below B a w → B ≤ g → Below B a (w.setCells g o vs)
  | [], _, _, _, _, h, _ => h
  | v :: r, _, _, _, o, h, hg => Below.sets r (o + 1) (h.setCell hg v) hg
end Go.Proofs.Ytdciohinlhbliaa
