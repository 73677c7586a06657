/-
  Tables of one's own: written, parted; what calls leave.
-/
import Derived.Test.YtaobjpajbpoamaaTGet
namespace Go.Proofs.Ytaobjpajbpoamaa
open Go.RowKit
theorem On.three (w : World) (g i0 i1 i2 : Nat) (v0 v1 v2 : Value) : On (fun b => b ≠ g) w (((w.setCell ⟨g, i0, none⟩ v0).setCell ⟨g, i1, none⟩ v1).setCell ⟨g, i2, none⟩ v2) := fun b hb => by
  rw [heap_setCell_other _ ⟨g, i2, none⟩ b _ hb, heap_setCell_other _ ⟨g, i1, none⟩ b _ hb, heap_setCell_other _ ⟨g, i0, none⟩ b _ hb]
theorem t_row {w : World} {base : Nat} {v : Value} {l : List Tb.Slt} (h : Mine w base 60 3 v (l.map tC)) : Tab w (fun b => base ≤ b ∧ b < w.heap.size) v l := h.row (even_t l)
/-- A slot of a table of one's own is written. -/
theorem t_set {w : World} {base g n c : Nat} {l : List Tb.Slt} (h : Mine w base 60 3 (.slice (some ⟨g, 0, none⟩) n c) (l.map tC)) (k : Nat) (x y : Tb.Slt) (hx : l[k]? = some x) :
    Mine (((w.setCell ⟨g, k * 3, none⟩ (.bool y.has)).setCell ⟨g, k * 3 + 1, none⟩ (.int .i64 y.op)).setCell ⟨g, k * 3 + 2, none⟩ (.int .i64 y.rt)) base 60 3 (.slice (some ⟨g, 0, none⟩) n c) ((l.set k y).map tC) := by
  have hk := (List.getElem?_eq_some_iff.1 hx).1
  have h0 := h.set (even_t l) k 0 (tC x) (.bool y.has) (by rw [List.getElem?_map, hx]; rfl) (by decide)
  have e0 : (l.map tC).set k ((tC x).set 0 (.bool y.has)) = (l.set k ⟨y.has, x.op, x.rt⟩).map tC := by rw [List.map_set]; rfl
  rw [e0] at h0
  have h1 := h0.set (even_t _) k 1 (tC ⟨y.has, x.op, x.rt⟩) (.int .i64 y.op) (by rw [List.getElem?_map, List.getElem?_set_self hk]; rfl) (by decide)
  have e1 : ((l.set k ⟨y.has, x.op, x.rt⟩).map tC).set k ((tC ⟨y.has, x.op, x.rt⟩).set 1 (.int .i64 y.op)) = (l.set k ⟨y.has, y.op, x.rt⟩).map tC := by simp only [List.map_set, List.set_set]; rfl
  rw [e1] at h1
  have h2 := h1.set (even_t _) k 2 (tC ⟨y.has, y.op, x.rt⟩) (.int .i64 y.rt) (by rw [List.getElem?_map, List.getElem?_set_self hk]; rfl) (by decide)
  have e2 : ((l.set k ⟨y.has, y.op, x.rt⟩).map tC).set k ((tC ⟨y.has, y.op, x.rt⟩).set 2 (.int .i64 y.rt)) = (l.set k y).map tC := by simp only [List.map_set, List.set_set]; rfl
  rw [e2] at h2
  exact h2
theorem t_one {w : World} {g : Nat} {x : Tb.Slt} (h : Blk w g (tC x).toArray 60) : Row w (fun b => b = g) 3 (.slice (some ⟨g, 0, none⟩) 1 1) ([x].map tC) := by
  refine Or.inr ⟨g, 0, 1, rfl, rfl, Nat.le_refl _, by decide, fun i cs' hi j u hj => ?_⟩
  match i, hi with
  | 0, hi =>
    simp at hi
    subst hi
    rw [h.cell]
    simp only [Nat.zero_mul, Nat.zero_add]
    simpa using hj
  | i + 1, hi => simp at hi
theorem t_own {w : World} {base : Nat} {v : Value} {l : List Tb.Slt} (h : Mine w base 60 3 v (l.map tC)) {k : Nat} (hk : k < l.length) :
    ∃ g c, v = .slice (some ⟨g, 0, none⟩) l.length c ∧ base ≤ g ∧ g < w.heap.size ∧ l.length ≤ c ∧ c ≤ maxLen ∧ ∀ j, j < l.length * 3 → (∃ u, w.cell? ⟨g, j, none⟩ = some u) ∧ w.frozen? ⟨g, j, none⟩ = false := by
  obtain ⟨a, c, rfl, -, hg⟩ := h.form
  obtain ⟨g, rfl, h1, h2⟩ := hg (by rw [List.length_map]; omega)
  obtain ⟨cur, hb, hn, hc, hm, hsz, -⟩ := h.blk
  rw [List.length_map] at hc ⊢
  refine ⟨g, c, rfl, h1, h2, hc, hm, fun j hj => ⟨?_, hb.free j⟩⟩
  have hjl : j < cur.size := by rw [hsz]; omega
  exact ⟨cur[j], by rw [hb.cell, Array.getElem?_eq_getElem hjl]⟩
/-- What Put, Close, Limit, Dup leave: a table that is new. -/
def TabNew (w w' : World) (v : Value) (l : List Tb.Slt) : Prop := Tab w' (fun b => w.heap.size ≤ b ∧ b < w'.heap.size) v l ∧ Below w.heap.size w w'
end Go.Proofs.Ytaobjpajbpoamaa
