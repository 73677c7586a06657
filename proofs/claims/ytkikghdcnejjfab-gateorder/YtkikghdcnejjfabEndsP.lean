/-
  A program with which nothing is wrong ends.
-/
import Derived.Test.YtkikghdcnejjfabWalkC
namespace Go.Proofs.Ytkikghdcnejjfab
open Go.RowKit
namespace Bp
theorem from_ends {p : List Ins} (h : Good p) (r : Nat → Int) : ∀ (n a : Nat) (acc : Int), n = p.length - a → a < p.length → ((from' r (p.drop a) acc).1 = 1 ∨ (from' r (p.drop a) acc).1 = 0) ∧ 1 ≤ (from' r (p.drop a) acc).2 ∧ (from' r (p.drop a) acc).2 + a ≤ p.length := by
  intro n
  induction n using Nat.strongRecOn with
  | ind n ih =>
    intro a acc hn ha
    have hx : p[a]? = some p[a] := List.getElem?_eq_getElem ha
    by_cases h6 : p[a].op = 6
    · rw [from_last r acc hx h6]
      have := wrong_zero (h.each a _ hx)
      dsimp only
      omega
    · rw [from_step r acc hx h6]
      have ho := over_ok h hx h6 acc
      have := ih (p.length - (a + 1 + (over p[a] acc).toNat)) (by omega) (a + 1 + (over p[a] acc).toNat) (acc' r p[a] acc) rfl ho.2
      dsimp only
      omega
theorem run_ends {p : List Ins} (h : (chk p).1 = 0) (r : Nat → Int) : ((run p r).1 = 1 ∨ (run p r).1 = 0) ∧ 1 ≤ (run p r).2 ∧ (run p r).2 ≤ p.length := by
  have hg := (good_iff p).1 h
  have := from_ends hg r p.length 0 0 (by omega) (by have := hg.one; omega)
  unfold run
  rw [if_neg (by simpa using h)]
  simpa using this
end Bp
theorem Holds.form {w : World} {B : Nat} {v : Value} {p : List Bp.Ins} (h : Holds w B v p) : ∃ a cap, v = .slice a p.length cap := by
  rcases h with ⟨a, cap, rfl, rfl⟩ | ⟨b, o, cap, rfl, _⟩
  · exact ⟨a, cap, rfl⟩
  · exact ⟨_, cap, rfl⟩
end Go.Proofs.Ytkikghdcnejjfab
