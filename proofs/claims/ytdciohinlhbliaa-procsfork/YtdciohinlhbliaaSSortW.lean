
/-
  Names against each other; the stable sort, walked.
-/
import Derived.Test.YtdciohinlhbliaaSSort
namespace Go.Proofs.Ytdciohinlhbliaa
open Go.RowKit Go.Shelf Go.Sort
theorem cb_self : ∀ a : List UInt8, Lib.compareBytes a a = 0
  | [] => rfl
  | x :: a => by simp [Lib.compareBytes, cb_self a]
theorem cb_anti : ∀ a b : List UInt8, Lib.compareBytes b a = - Lib.compareBytes a b
  | [], [] => rfl
  | [], _ :: _ => rfl
  | _ :: _, [] => rfl
  | x :: a, y :: b => by
    unfold Lib.compareBytes
    by_cases h1 : x < y
    · have h2 : ¬ y < x := UInt8.lt_asymm h1
      simp [h1, h2]
    · by_cases h2 : y < x
      · simp [h1, h2]
      · simp [h1, h2, cb_anti a b]
theorem cb_eq : ∀ a b : List UInt8, Lib.compareBytes a b = 0 → a = b
  | [], [], _ => rfl
  | [], _ :: _, h => by simp [Lib.compareBytes] at h
  | _ :: _, [], h => by simp [Lib.compareBytes] at h
  | x :: a, y :: b, h => by
    unfold Lib.compareBytes at h
    by_cases h1 : x < y
    · simp [h1] at h
    · by_cases h2 : y < x
      · simp [h1, h2] at h
      · simp [h1, h2] at h
        have : x = y := UInt8.le_antisymm (UInt8.not_lt.1 h2) (UInt8.not_lt.1 h1)
        rw [this, cb_eq a b h]
theorem cb_trans : ∀ a b c : List UInt8, Lib.compareBytes a b < 0 → Lib.compareBytes b c < 0 → Lib.compareBytes a c < 0
  | [], [], _, h, _ => by simp [Lib.compareBytes] at h
  | [], _ :: _, [], _, h => by simp [Lib.compareBytes] at h
  | [], _ :: _, _ :: _, _, _ => by simp [Lib.compareBytes]
  | _ :: _, [], _, h, _ => by simp [Lib.compareBytes] at h
  | _ :: _, _ :: _, [], _, h => by simp [Lib.compareBytes] at h
  | x :: a, y :: b, z :: c, h, k => by
    unfold Lib.compareBytes at h k ⊢
    by_cases h1 : x < y
    · by_cases k1 : y < z
      · simp [UInt8.lt_trans h1 k1]
      · by_cases k2 : z < y
        · simp [k1, k2] at k
        · have : y = z := UInt8.le_antisymm (UInt8.not_lt.1 k2) (UInt8.not_lt.1 k1)
          subst this
          simp [h1]
    · by_cases h2 : y < x
      · simp [h1, h2] at h
      · have : x = y := UInt8.le_antisymm (UInt8.not_lt.1 h2) (UInt8.not_lt.1 h1)
        subst this
        simp [h1] at h
        by_cases k1 : x < z
        · simp [k1]
        · by_cases k2 : z < x
          · simp [k1, k2] at k
          · simp [k1, k2] at k ⊢
            exact cb_trans a b c h k
theorem swoE : SWO (ltOf cmpE) where
  irrefl x := by simp [ltOf, cmpE, cb_self]
  trans x y z h k := decide_eq_true (cb_trans _ _ _ (of_decide_eq_true h) (of_decide_eq_true k))
  ntrans x y z h k := by
    have h := of_decide_eq_false h
    have k := of_decide_eq_false k
    refine decide_eq_false fun hn => ?_
    unfold cmpE at h k hn
    have a1 := cb_anti x.name.data.toList y.name.data.toList
    have a2 := cb_anti y.name.data.toList z.name.data.toList
    rcases Int.lt_or_eq_of_le (show Lib.compareBytes y.name.data.toList x.name.data.toList ≤ 0 by omega) with h1 | h1
    · have := cb_trans _ _ _ h1 hn
      omega
    · rw [cb_eq _ _ h1] at k
      exact k hn
theorem sorted_perm [Inhabited Sp.Ent] (es : List Sp.Ent) : (sorted es).length = es.length ∧ (sorted es).Perm es ∧ (sorted es).Pairwise (fun a b => ¬ cmpE b a < 0) := by
  obtain ⟨⟨h1, -, h3⟩, h4⟩ := insertionSort_holds (lt := ltOf cmpE) swoE es.toArray 0 es.length (Nat.zero_le _) (by simp)
  unfold sorted
  generalize Sort.insertionSort (ltOf cmpE) es.toArray 0 es.length = A at *
  have hA : A.size = es.length := by simpa using h1
  refine ⟨by simpa using hA, ?_, ?_⟩
  · rw [← hA, Array.extract_size] at h3
    rw [hA] at h3
    simpa using h3
  · rw [List.pairwise_iff_getElem]
    intro i j hi hj hij hlt
    have hi' : i < A.size := by simpa using hi
    have hj' : j < A.size := by simpa using hj
    have := of_decide_eq_false (h4 i j (Nat.zero_le _) hij (by omega))
    rw [getElem!_pos A i hi', getElem!_pos A j hj'] at this
    exact this (by simpa using hlt)
theorem sorted_length [Inhabited Sp.Ent] (es : List Sp.Ent) : (sorted es).length = es.length := (sorted_perm es).1
end Go.Proofs.Ytdciohinlhbliaa
