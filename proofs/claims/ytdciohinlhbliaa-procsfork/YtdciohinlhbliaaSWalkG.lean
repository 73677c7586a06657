
/-
  store.noDir, store.Find, walked.
-/
import Derived.Test.YtdciohinlhbliaaSWalkF
namespace Go.Proofs.Ytdciohinlhbliaa
open Go.RowKit
theorem objAt_some {L : List Sp.Ob} {k : Int} {o : Sp.Ob} (h : Sp.objAt L k = some o) : ∃ n : Nat, k = n ∧ L[n]? = some o ∧ o.kind ≠ 0 := by
  by_cases h0 : 0 ≤ k
  · obtain ⟨n, rfl⟩ := Int.eq_ofNat_of_zero_le h0
    rw [objAt_nat] at h
    obtain ⟨h1, h2⟩ := Option.filter_eq_some_iff.1 h
    exact ⟨n, rfl, h1, by simpa using h2⟩
  · rw [objAt_neg h0] at h; cases h
theorem objAt_of {L : List Sp.Ob} {n : Nat} {o : Sp.Ob} (h : L[n]? = some o) (hk : o.kind ≠ 0) : Sp.objAt L (n : Int) = some o := by
  rw [objAt_nat, h]
  exact Option.filter_eq_some_iff.2 ⟨rfl, by simpa using hk⟩
theorem placeFrom_cases (name : ByteArray) : ∀ (es : List Sp.Ent) (k : Nat), (Sp.placeFrom name es k = -1 ∧ es.find? (fun e => Sp.eqB e.name name) = none) ∨ ∃ (j : Nat) (x : Sp.Ent), Sp.placeFrom name es k = ((k + j : Nat) : Int) ∧ es[j]? = some x ∧ es.find? (fun e => Sp.eqB e.name name) = some x ∧ Sp.eqB x.name name = true ∧ ∀ i, i < j → ∀ y, es[i]? = some y → Sp.eqB y.name name = false
  | [], k => Or.inl ⟨rfl, rfl⟩
  | e :: t, k => by
    unfold Sp.placeFrom
    by_cases h : Sp.eqB e.name name = true
    · rw [if_pos h]
      exact Or.inr ⟨0, e, rfl, rfl, by simp [h], h, fun i hi => by omega⟩
    · rw [if_neg h]
      have h' : Sp.eqB e.name name = false := by simpa using h
      rcases placeFrom_cases name t (k + 1) with ⟨h1, h2⟩ | ⟨j, x, h1, h2, h3, h4, h5⟩
      · exact Or.inl ⟨h1, by simp only [List.find?_cons, h']; exact h2⟩
      · refine Or.inr ⟨j + 1, x, by rw [h1]; congr 1; omega, by simpa using h2, by simp only [List.find?_cons, h']; exact h3, h4, fun i hi y hy => ?_⟩
        match i, hi, hy with
        | 0, _, hy => simp at hy; subst hy; simpa using h
        | i + 1, hi, hy => exact h5 i (by omega) y (by simpa using hy)
theorem place_cases (name : ByteArray) (es : List Sp.Ent) : (Sp.place es name = -1 ∧ es.find? (fun e => Sp.eqB e.name name) = none) ∨ ∃ (j : Nat) (x : Sp.Ent), Sp.place es name = (j : Int) ∧ es[j]? = some x ∧ es.find? (fun e => Sp.eqB e.name name) = some x ∧ Sp.eqB x.name name = true ∧ ∀ i, i < j → ∀ y, es[i]? = some y → Sp.eqB y.name name = false := by
  rcases placeFrom_cases name es 0 with h | ⟨j, x, h1, h2⟩
  · exact Or.inl h
  · exact Or.inr ⟨j, x, by unfold Sp.place; rw [h1]; congr 1; omega, h2⟩
theorem noDir_ne {L : List Sp.Ob} {k : Int} (h : Sp.noDir L k ≠ 0) (name : ByteArray) : Sp.find L k name = -1 := by
  unfold Sp.noDir at h
  unfold Sp.find
  cases ho : Sp.objAt L k with
  | none => rfl
  | some o => rw [ho] at h; dsimp only at h ⊢; split at h <;> simp_all
theorem noDir_zero {L : List Sp.Ob} {k : Int} (h : Sp.noDir L k = 0) : ∃ (n : Nat) (o : Sp.Ob), k = n ∧ L[n]? = some o ∧ o.kind = 2 ∧ Sp.objAt L k = some o := by
  unfold Sp.noDir at h
  cases ho : Sp.objAt L k with
  | none => rw [ho] at h; simp at h
  | some o =>
    rw [ho] at h
    obtain ⟨n, rfl, hx, hk⟩ := objAt_some ho
    refine ⟨n, o, rfl, hx, ?_, rfl⟩
    dsimp only at h
    split at h
    · assumption
    · simp at h
end Go.Proofs.Ytdciohinlhbliaa
