/-
  Policies that a call lays in a row of its own.
-/
import Derived.Test.YtkikghdcnejjfabGWalkG
import Derived.Test.YtkikghdcnejjfabGRec
namespace Go.Proofs.Ytkikghdcnejjfab
open Go.RowKit
/-- The cells of policies, each with where its masks lie. -/
def flat2 (ts : List (Gp.Pol × Value)) : List Value := ts.flatMap fun t => [.int .i64 t.1.call, t.2]
theorem flat2_length (ts : List (Gp.Pol × Value)) : (flat2 ts).length = ts.length * 2 := by
  unfold flat2
  induction ts with
  | nil => rfl
  | cons a t ih => rw [List.flatMap_cons, List.length_append, ih]; simp; omega
theorem flat2_append (p q : List (Gp.Pol × Value)) : flat2 (p ++ q) = flat2 p ++ flat2 q := List.flatMap_append ..
theorem flat2_at : ∀ (p : List (Gp.Pol × Value)) (i : Nat) (x : Gp.Pol × Value), p[i]? = some x → (flat2 p)[i * 2]? = some (.int .i64 x.1.call) ∧ (flat2 p)[i * 2 + 1]? = some x.2
  | [], i, x, h => by simp at h
  | a :: t, 0, x, h => by simp at h; subst h; simp [flat2]
  | a :: t, i + 1, x, h => by
    have := flat2_at t i x (by simpa using h)
    have e : flat2 (a :: t) = [.int .i64 a.1.call, a.2] ++ flat2 t := rfl
    rw [e]
    rw [List.getElem?_append_right (by simp; omega), List.getElem?_append_right (by simp; omega)]
    simp only [List.length_cons, List.length_nil]
    rw [show (i + 1) * 2 - (0 + 1 + 1) = i * 2 by omega, show (i + 1) * 2 + 1 - (0 + 1 + 1) = i * 2 + 1 by omega]
    exact this
theorem flat2_one (p : List (Gp.Pol × Value)) (h : ∀ t ∈ p, t.2.oneCell' = true) : ∀ u ∈ flat2 p, u.oneCell' = true := by
  intro u hu
  unfold flat2 at hu
  rw [List.mem_flatMap] at hu
  obtain ⟨x, hx, hx'⟩ := hu
  simp at hx'
  rcases hx' with rfl | rfl
  · rfl
  · exact h x hx
/-- Policies lie in block b, their masks' slices told. -/
def TLies (w : World) (B b o : Nat) (ts : List (Gp.Pol × Value)) : Prop :=
  ∀ (i : Nat) (t : Gp.Pol × Value), ts[i]? = some t → w.cell? ⟨b, o + i * 2, none⟩ = some (.int .i64 t.1.call) ∧ w.cell? ⟨b, o + i * 2 + 1, none⟩ = some t.2 ∧ MHolds w B t.2 t.1.masks
theorem PLies.told {w : World} {B b o : Nat} {l : List Gp.Pol} (h : PLies w B b o l) : ∃ ts : List (Gp.Pol × Value), l = ts.map Prod.fst ∧ TLies w B b o ts := by
  have each : ∀ i, ∃ mv : Value, ∀ P, l[i]? = some P → w.cell? ⟨b, o + i * 2, none⟩ = some (.int .i64 P.call) ∧ w.cell? ⟨b, o + i * 2 + 1, none⟩ = some mv ∧ MHolds w B mv P.masks := by
    intro i
    cases hl : l[i]? with
    | none => exact ⟨undef, fun P hP => by cases hP⟩
    | some P =>
      obtain ⟨e1, mv, e2, e3⟩ := h i P hl
      exact ⟨mv, fun Q hQ => by cases hQ; exact ⟨e1, e2, e3⟩⟩
  obtain ⟨M, hM⟩ := Classical.axiomOfChoice each
  refine ⟨l.mapIdx fun i P => (P, M i), ?_, ?_⟩
  · apply List.ext_getElem?
    intro i
    rw [List.getElem?_map, List.getElem?_mapIdx]
    cases l[i]? <;> rfl
  · intro i t ht
    rw [List.getElem?_mapIdx] at ht
    cases hl : l[i]? with
    | none => rw [hl] at ht; cases ht
    | some P =>
      rw [hl] at ht
      simp at ht
      subst ht
      exact hM i P hl
theorem TLies.on {w w' : World} {b o B B' : Nat} {ts : List (Gp.Pol × Value)} (h : TLies w B b o ts) (hb : Below B' w w') (hB : b < B') (hBB : B ≤ B') : TLies w' B b o ts := by
  intro i t ht
  obtain ⟨h1, h2, h3⟩ := h i t ht
  rw [hb.cell (p := ⟨b, _, none⟩) hB, hb.cell (p := ⟨b, _, none⟩) hB]
  exact ⟨h1, h2, h3.on hb hBB⟩
theorem Try.infoPol : (Try.prog.info? 41).map (fun i => (i.zero, i.size, i.bytes)) = some (some (.agg #[.int .i64 0, .slice none 0 0]), 2, 32) := by kernel_rfl
theorem wpList_pols {w : World} {ops : Array Oper} {rest : List Oper} {o : Oper} {a : Act} {Q : Exit → Act → World → Prop} (hgd : o.guard = none) (s x : Operand)
    (ho : o.op = .call { callee := .builtin .append, args := #[s, x], argTypes := #[34, 34] }) (base : Nat) (v : Value) (p : List (Gp.Pol × Value)) (t : Gp.Pol × Value) (hone : t.2.oneCell' = true) (hs : a.eval s = v) (hown : w.ownsRow base 41 2 v p.length (flat2 p))
    (b c : Nat) (hx : a.eval x = .slice (some ⟨b, 0, none⟩) 1 c) (h0 : w.cell? ⟨b, 0, none⟩ = some (.int .i64 t.1.call)) (h1 : w.cell? ⟨b, 1, none⟩ = some t.2)
    (h63 : p.length ≤ 1000000) (hbase : base ≤ w.heap.size)
    (h : ∀ v' w', w'.ownsRow base 41 2 v' (p.length + 1) (flat2 (p ++ [t])) → w.grownBy w' v.ownBlock → wpList Try.prog ops Q rest (a.put o.dst v') w') : wpList Try.prog ops Q (o :: rest) a w := by
  obtain ⟨i0, hi, hz0, hz1, hz2⟩ := info_parts Try.infoPol
  refine wpList_append_own w hgd s x 34 ho base 41 i0 (.agg #[.int .i64 0, .slice none 0 0]) 2 32 Try.underlying34 hi hz0 hz1 hz2 rfl (by decide) v p.length (flat2 p) hs hown ⟨b, 0, none⟩ 1 c (flat2 [t]) hx rfl ?_ (flat2_one [t] (by simpa using hone)) (by unfold maxLen; omega) (by omega) hbase fun v' w' h2 h3 _ => h v' w' ?_ h3
  · intro j u hj
    match j, hj with
    | 0, hj => simp [flat2] at hj; subst hj; exact h0
    | 1, hj => simp [flat2] at hj; subst hj; exact h1
    | j + 2, hj => simp [flat2] at hj
  · rw [flat2_append]
    exact h2
/-- A row of policies of one's own holds them. -/
theorem pholds_own {w : World} {base B : Nat} {v : Value} {ts : List (Gp.Pol × Value)} (h : w.ownsRow base 41 2 v ts.length (flat2 ts)) (hB : B ≤ w.heap.size) (hm : ∀ t ∈ ts, MHolds w B t.2 t.1.masks) : PHolds w w.heap.size v (ts.map Prod.fst) := by
  have hlt := h.lt
  have hc := fun g hg => h.cells (g := g) hg
  rcases h.2 with ⟨rfl, h0⟩ | ⟨g, cap, cur, rfl, _, _, h1, h2, _, _⟩
  · rw [List.length_eq_zero_iff.1 h0]; exact Or.inl ⟨none, 0, rfl, rfl⟩
  · refine Or.inr ⟨g, 0, cap, by rw [List.length_map], (hlt g rfl).2, by rw [List.length_map]; omega, h2, fun i P hP => ?_⟩
    rw [List.getElem?_map] at hP
    cases ht : ts[i]? with
    | none => rw [ht] at hP; cases hP
    | some t =>
      rw [ht] at hP
      simp at hP
      subst hP
      obtain ⟨e0, e1⟩ := flat2_at ts i t ht
      have k0 := hc g rfl _ _ e0
      have k1 := hc g rfl _ _ e1
      simp only [Addr.add_lit, Nat.zero_add] at k0 k1 ⊢
      exact ⟨k0, t.2, k1, (hm t (List.mem_of_getElem? ht)).up hB⟩
theorem rev_step (ts : List (Gp.Pol × Value)) (k : Nat) (hk : k < ts.length) : ∃ t, ts[ts.length - 1 - k]? = some t ∧ ts.reverse.take (k + 1) = ts.reverse.take k ++ [t] := by
  refine ⟨ts[ts.length - 1 - k]'(by omega), List.getElem?_eq_getElem _, ?_⟩
  rw [List.take_succ_eq_append_getElem (by simpa using hk)]
  congr 2
  rw [List.getElem_reverse]
end Go.Proofs.Ytkikghdcnejjfab
