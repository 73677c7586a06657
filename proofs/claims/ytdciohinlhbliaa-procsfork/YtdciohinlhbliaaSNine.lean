
/-
  Rows of objects, one written; rows that are made.
-/
import Derived.Test.YtdciohinlhbliaaSWalkC
import Derived.OwnWalk
namespace Go.Proofs.Ytdciohinlhbliaa
open Go.RowKit
theorem obj_cells {w : World} {b o i : Nat} {ts : List (Sls × Sp.Ob)} (h5 : ∀ i cs, (ts.map objC)[i]? = some cs → ∀ j u, cs[j]? = some u → w.cell? ⟨b, o + i * 9 + j, none⟩ = some u) {s : Sls} {x : Sp.Ob} (hx : ts[i]? = some (s, x)) :
    w.cell? ⟨b, o + i * 9, none⟩ = some (.int .i64 x.kind) ∧ w.cell? ⟨b, o + i * 9 + 1, none⟩ = some (.slice s.d.a s.d.n s.d.c) ∧ w.cell? ⟨b, o + i * 9 + 2, none⟩ = some (.slice s.e.a s.e.n s.e.c) ∧ w.cell? ⟨b, o + i * 9 + 3, none⟩ = some (.string x.target) ∧ w.cell? ⟨b, o + i * 9 + 4, none⟩ = some (.int .i64 x.peer) ∧ w.cell? ⟨b, o + i * 9 + 5, none⟩ = some (.slice s.q.a s.q.n s.q.c) ∧ w.cell? ⟨b, o + i * 9 + 6, none⟩ = some (.int .i64 x.proc) ∧ w.cell? ⟨b, o + i * 9 + 7, none⟩ = some (.int .i64 x.links) ∧ w.cell? ⟨b, o + i * 9 + 8, none⟩ = some (.int .i64 x.up) := by
  have key := h5 i (objC (s, x)) (by rw [List.getElem?_map, hx]; rfl)
  exact ⟨key 0 _ rfl, key 1 _ rfl, key 2 _ rfl, key 3 _ rfl, key 4 _ rfl, key 5 _ rfl, key 6 _ rfl, key 7 _ rfl, key 8 _ rfl⟩
theorem ent_cells {w : World} {b o i : Nat} {es : List Sp.Ent} (h5 : ∀ i cs, (es.map entC)[i]? = some cs → ∀ j u, cs[j]? = some u → w.cell? ⟨b, o + i * 2 + j, none⟩ = some u) {x : Sp.Ent} (hx : es[i]? = some x) :
    w.cell? ⟨b, o + i * 2, none⟩ = some (.string x.name) ∧ w.cell? ⟨b, o + i * 2 + 1, none⟩ = some (.int .i64 x.obj) := by
  have key := h5 i (entC x) (by rw [List.getElem?_map, hx]; rfl)
  exact ⟨key 0 _ rfl, key 1 _ rfl⟩
theorem nine_of {α : Type} {l : List α} (h : l.length = 9) : ∃ x0 x1 x2 x3 x4 x5 x6 x7 x8, l = [x0, x1, x2, x3, x4, x5, x6, x7, x8] := by
  match l, h with
  | [a, b, c, d, e, f, g, i, j], _ => exact ⟨a, b, c, d, e, f, g, i, j, rfl⟩
theorem Mine.nine {w : World} {base g n c : Nat} {e : TypeId} {css : List (List Value)} (h : Mine w base e 9 (.slice (some ⟨g, 0, none⟩) n c) css) (hE : Even 9 css) (i : Nat) (hi : i < css.length) (c0 c1 c2 c3 c4 c5 c6 c7 c8 : Value) (W : World)
    (hW : W = (((((((((w.setCell ⟨g, i * 9, none⟩ c0).setCell ⟨g, i * 9 + 1, none⟩ c1).setCell ⟨g, i * 9 + 2, none⟩ c2).setCell ⟨g, i * 9 + 3, none⟩ c3).setCell ⟨g, i * 9 + 4, none⟩ c4).setCell ⟨g, i * 9 + 5, none⟩ c5).setCell ⟨g, i * 9 + 6, none⟩ c6).setCell ⟨g, i * 9 + 7, none⟩ c7).setCell ⟨g, i * 9 + 8, none⟩ c8)) :
    Mine W base e 9 (.slice (some ⟨g, 0, none⟩) n c) (css.set i [c0, c1, c2, c3, c4, c5, c6, c7, c8]) ∧ On (fun k => k ≠ g) w W ∧ W.heap.size = w.heap.size := by
  subst hW
  obtain ⟨x0, x1, x2, x3, x4, x5, x6, x7, x8, hx⟩ := nine_of (hE css[i] (List.getElem_mem hi))
  have hg : css[i]? = some [x0, x1, x2, x3, x4, x5, x6, x7, x8] := by rw [List.getElem?_eq_getElem hi, hx]
  have ev : ∀ cs : List Value, cs.length = 9 → Even 9 (css.set i cs) := fun cs hcs x hx => by
    rcases List.mem_or_eq_of_mem_set hx with h1 | h1
    · exact hE x h1
    · rw [h1]; exact hcs
  have gt : ∀ cs : List Value, (css.set i cs)[i]? = some cs := fun cs => by rw [List.getElem?_set_self hi]
  have h0 := h.set hE i 0 _ c0 hg (by decide)
  simp only [List.set_cons_zero, Nat.add_zero] at h0
  have h1 := h0.set (ev _ rfl) i 1 _ c1 (gt _) (by decide)
  simp only [List.set_cons_zero, List.set_cons_succ, List.set_set] at h1
  have h2 := h1.set (ev _ rfl) i 2 _ c2 (gt _) (by decide)
  simp only [List.set_cons_zero, List.set_cons_succ, List.set_set] at h2
  have h3 := h2.set (ev _ rfl) i 3 _ c3 (gt _) (by decide)
  simp only [List.set_cons_zero, List.set_cons_succ, List.set_set] at h3
  have h4 := h3.set (ev _ rfl) i 4 _ c4 (gt _) (by decide)
  simp only [List.set_cons_zero, List.set_cons_succ, List.set_set] at h4
  have h5 := h4.set (ev _ rfl) i 5 _ c5 (gt _) (by decide)
  simp only [List.set_cons_zero, List.set_cons_succ, List.set_set] at h5
  have h6 := h5.set (ev _ rfl) i 6 _ c6 (gt _) (by decide)
  simp only [List.set_cons_zero, List.set_cons_succ, List.set_set] at h6
  have h7 := h6.set (ev _ rfl) i 7 _ c7 (gt _) (by decide)
  simp only [List.set_cons_zero, List.set_cons_succ, List.set_set] at h7
  have h8 := h7.set (ev _ rfl) i 8 _ c8 (gt _) (by decide)
  simp only [List.set_cons_zero, List.set_cons_succ, List.set_set] at h8
  refine ⟨h8, ?_, by simp⟩
  exact (((((((((On.set w ⟨g, i * 9, none⟩ c0).trans (On.set _ ⟨g, i * 9 + 1, none⟩ c1)).trans (On.set _ ⟨g, i * 9 + 2, none⟩ c2)).trans (On.set _ ⟨g, i * 9 + 3, none⟩ c3)).trans (On.set _ ⟨g, i * 9 + 4, none⟩ c4)).trans (On.set _ ⟨g, i * 9 + 5, none⟩ c5)).trans (On.set _ ⟨g, i * 9 + 6, none⟩ c6)).trans (On.set _ ⟨g, i * 9 + 7, none⟩ c7)).trans (On.set _ ⟨g, i * 9 + 8, none⟩ c8))
theorem made_rows (z : Array Value) (k n : Nat) (hk : 0 < k) (hz : z.size = k) : (madeCells z (n * k)).toList = (List.replicate n z.toList).flatten := by
  have hE : Even k (List.replicate n z.toList) := fun cs hcs => by rw [(List.mem_replicate.1 hcs).2, Array.length_toList, hz]
  apply List.ext_getElem?
  intro j
  by_cases hj : j < n * k
  · have hq : j / k < n := Nat.div_lt_of_lt_mul (by rw [Nat.mul_comm]; exact hj)
    have hm : j % k < z.size := by rw [hz]; exact Nat.mod_lt _ hk
    have e := flatten_at hE (j / k) z.toList (by rw [List.getElem?_replicate]; simp [hq]) (j % k) z[j % k] (by rw [Array.getElem?_toList]; exact Array.getElem?_eq_getElem hm)
    rw [Nat.mul_comm, Nat.div_add_mod] at e
    rw [e]
    simp [madeCells, hj, hz]
    rw [getElem!_pos z (j % k) hm]
  · rw [List.getElem?_eq_none (by simp [madeCells]; omega), List.getElem?_eq_none (by rw [hE.flatten]; simp; omega)]
theorem Mine.made {w : World} {base k n : Nat} {e : TypeId} {v : Value} {z : Array Value} (hk : 0 < k) (hz : z.size = k) (h : w.ownsRow base e k v n (madeCells z (n * k)).toList) : Mine w base e k v (List.replicate n z.toList) := by
  rw [made_rows z k n hk hz] at h
  unfold Mine
  rw [List.length_replicate]
  exact h
end Go.Proofs.Ytdciohinlhbliaa
