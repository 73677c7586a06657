/-
  Programs with which nothing is wrong: plain facts.
-/
import Derived.Test.YtkikghdcnejjfabPlain
namespace Go.Proofs.Ytkikghdcnejjfab
namespace Bp
theorem first_none : ∀ (p : List Ins) (at' : Nat), first p at' = none → ∀ (k : Nat) (x : Ins), p[k]? = some x → wrong x (p.length - 1 - k : Nat) = 0
  | [], _, _, k, x, hx => by simp at hx
  | i :: t, at', h, k, x, hx => by
    rw [first] at h
    split at h
    · cases h
    · rename_i h0
      match k, hx with
      | 0, hx => simp at hx; subst hx; simpa using h0
      | k + 1, hx =>
        have := first_none t (at' + 1) h k x (by simpa using hx)
        rw [show (i :: t).length - 1 - (k + 1) = t.length - 1 - k by simp; omega]
        exact this
theorem first_le : ∀ (p : List Ins) (at' : Nat) (f : Int × Nat), first p at' = some f → f.1 ≠ 0
  | [], _, _, h => by simp [first] at h
  | i :: t, at', f, h => by
    rw [first] at h
    split at h
    · rename_i h0; cases h; exact h0
    · exact first_le t (at' + 1) f h
/-- What a program is with which nothing is wrong. -/
structure Good (p : List Ins) : Prop where
  one : 1 ≤ p.length
  many : p.length ≤ 400
  each : ∀ (k : Nat) (x : Ins), p[k]? = some x → wrong x (p.length - 1 - k : Nat) = 0
  last : ∀ x, p[p.length - 1]? = some x → x.op = 6
theorem good_iff (p : List Ins) : (chk p).1 = 0 ↔ Good p := by
  unfold chk
  constructor
  · intro h
    split at h
    · simp at h
    · rename_i hn
      split at h
      · rename_i f hf
        exact absurd h (first_le p 0 f hf)
      · rename_i hf
        split at h
        · simp at h
        · rename_i h6
          refine ⟨by omega, by omega, first_none p 0 hf, fun x hx => ?_⟩
          rw [List.getD_eq_getElem?_getD, hx] at h6
          simpa using h6
  · rintro ⟨h1, h2, h3, h4⟩
    rw [if_neg (by omega)]
    have hf : first p 0 = none := by
      have aux : ∀ (q : List Ins) (a : Nat), (∀ (k : Nat) (x : Ins), q[k]? = some x → wrong x (q.length - 1 - k : Nat) = 0) → first q a = none := by
        intro q
        induction q with
        | nil => intro a _; rfl
        | cons i t ih =>
          intro a h
          rw [first]
          have h0 := h 0 i rfl
          rw [if_neg (by simpa using h0)]
          refine ih _ fun k x hx => ?_
          have := h (k + 1) x (by simpa using hx)
          rw [show (i :: t).length - 1 - (k + 1) = t.length - 1 - k by simp; omega] at this
          exact this
      exact aux p 0 h3
    rw [hf]
    have : (p.getD (p.length - 1) default).op = 6 := by
      apply h4
      rw [List.getD_eq_getElem?_getD, List.getElem?_eq_getElem (by omega)]
      rfl
    simp only [this, ne_eq, not_true, if_false]
theorem chk_good {p : List Ins} (h : Good p) : chk p = (0, 0) := by
  have h0 := (good_iff p).2 h
  unfold chk at h0 ⊢
  split at h0
  · simp at h0
  · rename_i hn
    rw [if_neg hn]
    split at h0
    · rename_i f hf
      exact absurd h0 (first_le p 0 f hf)
    · split at h0
      · simp at h0
      · rename_i hf h6
        simp only [h6, if_false]
/-- Nothing is wrong with one instruction: what that means. -/
theorem wrong_zero {x : Ins} {m : Nat} (h : wrong x m = 0) :
    (x.op = 1 ∧ 0 ≤ x.k ∧ x.k < 6 ∧ x.jt = 0 ∧ x.jf = 0) ∨
    ((x.op = 2 ∨ x.op = 3 ∨ x.op = 4) ∧ 0 ≤ x.k ∧ x.k < 2147483648 ∧ 0 ≤ x.jt ∧ x.jt ≤ 40 ∧ x.jt < m ∧ 0 ≤ x.jf ∧ x.jf ≤ 40 ∧ x.jf < m) ∨
    (x.op = 5 ∧ 0 ≤ x.k ∧ x.k < m ∧ x.jt = 0 ∧ x.jf = 0) ∨
    (x.op = 6 ∧ (x.k = 0 ∨ x.k = 1) ∧ x.jt = 0 ∧ x.jf = 0) := by
  obtain ⟨op, jt, jf, k⟩ := x
  unfold wrong at h
  split at h
  · simp at h
  rename_i h1
  split at h
  · simp at h
  rename_i h2
  split at h
  · simp at h
  rename_i h3
  dsimp only at *
  have : op = 1 ∨ op = 2 ∨ op = 3 ∨ op = 4 ∨ op = 5 ∨ op = 6 := by omega
  rcases this with rfl | rfl | rfl | rfl | rfl | rfl <;> simp [fits, bel, br] at h2 h3 ⊢ <;> omega
theorem over_ok {p : List Ins} (h : Good p) {a : Nat} {x : Ins} (hx : p[a]? = some x) (h6 : x.op ≠ 6) (acc : Int) : 0 ≤ over x acc ∧ a + 1 + (over x acc).toNat < p.length := by
  obtain ⟨ha, -⟩ := List.getElem?_eq_some_iff.1 hx
  have hne : a ≠ p.length - 1 := by
    intro e; subst e; exact h6 (h.last x hx)
  have := wrong_zero (h.each a x hx)
  unfold over
  rcases this with g | g | g | g
  · simp [g.1]; omega
  · have e1 : x.op ≠ 1 := by omega
    have e5 : x.op ≠ 5 := by omega
    rw [if_neg e1, if_neg e5]
    split <;> omega
  · simp [g.1]; omega
  · exact absurd g.1 h6
theorem from_last {p : List Ins} {a : Nat} {x : Ins} (r : Nat → Int) (acc : Int) (hx : p[a]? = some x) (h6 : x.op = 6) : from' r (p.drop a) acc = (x.k, 1) := by
  obtain ⟨ha, rfl⟩ := List.getElem?_eq_some_iff.1 hx
  rw [List.drop_eq_getElem_cons ha, from', if_pos h6]
theorem from_step {p : List Ins} {a : Nat} {x : Ins} (r : Nat → Int) (acc : Int) (hx : p[a]? = some x) (h6 : x.op ≠ 6) :
    from' r (p.drop a) acc = ((from' r (p.drop (a + 1 + (over x acc).toNat)) (acc' r x acc)).1, (from' r (p.drop (a + 1 + (over x acc).toNat)) (acc' r x acc)).2 + 1) := by
  obtain ⟨ha, rfl⟩ := List.getElem?_eq_some_iff.1 hx
  rw [List.drop_eq_getElem_cons ha, from', if_neg h6]
  simp [List.drop_drop]
end Bp
end Go.Proofs.Ytkikghdcnejjfab
