/-
  Programs that a call makes: rows of its own.
-/
import Derived.Test.YtkikghdcnejjfabEndsP
namespace Go.Proofs.Ytkikghdcnejjfab
open Go.RowKit
/-- The cells of a program. -/
def flat (p : List Bp.Ins) : List Value := p.flatMap fun x => [.int .i64 x.op, .int .i64 x.jt, .int .i64 x.jf, .int .i64 x.k]
theorem flat_length (p : List Bp.Ins) : (flat p).length = p.length * 4 := by
  unfold flat
  induction p with
  | nil => rfl
  | cons a t ih => rw [List.flatMap_cons, List.length_append, ih]; simp; omega
theorem flat_append (p q : List Bp.Ins) : flat (p ++ q) = flat p ++ flat q := List.flatMap_append ..
theorem flat_at : ∀ (p : List Bp.Ins) (i : Nat) (x : Bp.Ins), p[i]? = some x → (flat p)[i * 4]? = some (.int .i64 x.op) ∧ (flat p)[i * 4 + 1]? = some (.int .i64 x.jt) ∧ (flat p)[i * 4 + 2]? = some (.int .i64 x.jf) ∧ (flat p)[i * 4 + 3]? = some (.int .i64 x.k)
  | [], i, x, h => by simp at h
  | a :: t, 0, x, h => by simp at h; subst h; simp [flat]
  | a :: t, i + 1, x, h => by
    have := flat_at t i x (by simpa using h)
    have e : flat (a :: t) = [.int .i64 a.op, .int .i64 a.jt, .int .i64 a.jf, .int .i64 a.k] ++ flat t := rfl
    rw [e]
    rw [List.getElem?_append_right (by simp; omega), List.getElem?_append_right (by simp; omega), List.getElem?_append_right (by simp; omega), List.getElem?_append_right (by simp; omega)]
    simp only [List.length_cons, List.length_nil]
    rw [show (i + 1) * 4 - (0 + 1 + 1 + 1 + 1) = i * 4 by omega, show (i + 1) * 4 + 1 - (0 + 1 + 1 + 1 + 1) = i * 4 + 1 by omega, show (i + 1) * 4 + 2 - (0 + 1 + 1 + 1 + 1) = i * 4 + 2 by omega, show (i + 1) * 4 + 3 - (0 + 1 + 1 + 1 + 1) = i * 4 + 3 by omega]
    exact this
theorem Lies.flat {w : World} {b o : Nat} {p : List Bp.Ins} (h : Lies w b o p) : ∀ j u, (flat p)[j]? = some u → w.cell? ((⟨b, o, none⟩ : Addr).add j) = some u := by
  intro j u hj
  have hlt := (List.getElem?_eq_some_iff.1 hj).1
  rw [flat_length] at hlt
  obtain ⟨q, s, hs, rfl⟩ : ∃ q s, s < 4 ∧ j = q * 4 + s := ⟨j / 4, j % 4, by omega, by omega⟩
  have hx : p[q]? = some (p[q]'(by omega)) := List.getElem?_eq_getElem _
  generalize p[q]'(by omega) = x at hx
  obtain ⟨c0, c1, c2, c3⟩ := h q _ hx
  obtain ⟨e0, e1, e2, e3⟩ := flat_at p q _ hx
  rw [Addr.add_lit]
  have hm : s = 0 ∨ s = 1 ∨ s = 2 ∨ s = 3 := by omega
  rcases hm with rfl | rfl | rfl | rfl
  · rw [Nat.add_zero, e0] at hj; cases hj; exact c0
  · rw [e1] at hj; cases hj; exact c1
  · rw [e2] at hj; cases hj; exact c2
  · rw [e3] at hj; cases hj; exact c3
theorem flat_one (p : List Bp.Ins) : ∀ u ∈ flat p, u.oneCell' = true := by
  intro u hu
  unfold flat at hu
  rw [List.mem_flatMap] at hu
  obtain ⟨x, _, hx⟩ := hu
  simp at hx
  rcases hx with rfl | rfl | rfl | rfl <;> rfl
/-- A row of instructions of one's own holds them. -/
theorem holds_own {w : World} {base : Nat} {v : Value} {p : List Bp.Ins} (h : w.ownsRow base 30 4 v p.length (flat p)) : Holds w w.heap.size v p := by
  have hlt := h.lt
  have hc := fun g hg => h.cells (g := g) hg
  rcases h.2 with ⟨rfl, h0⟩ | ⟨g, cap, cur, rfl, _, _, h1, h2, _, _⟩
  · rw [List.length_eq_zero_iff.1 h0]; exact Holds.nil _ _ _ _
  · refine Or.inr ⟨g, 0, cap, rfl, (hlt g rfl).2, by omega, fun i x hx => ?_⟩
    obtain ⟨e0, e1, e2, e3⟩ := flat_at p i x hx
    have k0 := hc g rfl _ _ e0
    have k1 := hc g rfl _ _ e1
    have k2 := hc g rfl _ _ e2
    have k3 := hc g rfl _ _ e3
    simp only [Addr.add_lit] at k0 k1 k2 k3
    simp only [Nat.zero_add] at k0 k1 k2 k3 ⊢
    exact ⟨k0, k1, k2, k3⟩
theorem Try.infoIns : (Try.prog.info? 30).map (fun i => (i.zero, i.size, i.bytes)) = some (some (insV ⟨0, 0, 0, 0⟩), 4, 32) := by kernel_rfl
theorem wpList_inss {w : World} {ops : Array Oper} {rest : List Oper} {o : Oper} {a : Act} {Q : Exit → Act → World → Prop} (hgd : o.guard = none) (s x : Operand)
    (ho : o.op = .call { callee := .builtin .append, args := #[s, x], argTypes := #[22, 22] }) (base : Nat) (v : Value) (p q : List Bp.Ins) (hs : a.eval s = v) (hown : w.ownsRow base 30 4 v p.length (flat p))
    (b off c : Nat) (hx : a.eval x = .slice (some ⟨b, off, none⟩) q.length c) (hl : Lies w b off q)
    (h63 : p.length + q.length ≤ 1000000) (hbase : base ≤ w.heap.size)
    (h : ∀ v' w', w'.ownsRow base 30 4 v' (p ++ q).length (flat (p ++ q)) → w.grownBy w' v.ownBlock → wpList Try.prog ops Q rest (a.put o.dst v') w') : wpList Try.prog ops Q (o :: rest) a w := by
  obtain ⟨i0, hi, hz0, hz1, hz2⟩ := info_parts Try.infoIns
  refine wpList_append_own w hgd s x 22 ho base 30 i0 (insV ⟨0, 0, 0, 0⟩) 4 32 Try.underlying22 hi hz0 hz1 hz2 rfl (by decide) v p.length (flat p) hs hown ⟨b, off, none⟩ q.length c (flat q) hx (flat_length q) hl.flat (flat_one q) (by unfold maxLen; omega) (by omega) hbase fun v' w' h2 h3 _ => h v' w' ?_ h3
  rw [flat_append, List.length_append]
  exact h2
end Go.Proofs.Ytkikghdcnejjfab
