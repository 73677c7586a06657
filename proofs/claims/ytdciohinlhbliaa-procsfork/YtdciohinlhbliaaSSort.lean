
/-
  Entries sorted by their names: the library's stable sort, of few.
-/
import Derived.Test.YtdciohinlhbliaaSWalkM
import Derived.Shelf.SlSortCmp.InsertionK
import Derived.Shelf.Small.Strs
import Derived.Sort.LotA
namespace Go.Proofs.Ytdciohinlhbliaa
open Go.RowKit Go.Shelf Go.Sort
/-- Names against each other. -/
def cmpE (x y : Sp.Ent) : Int := Lib.compareBytes x.name.data.toList y.name.data.toList
/-- Entries, sorted. -/
def sorted [Inhabited Sp.Ent] (es : List Sp.Ent) : List Sp.Ent := (Sort.insertionSort (ltOf cmpE) es.toArray 0 es.length).toList
theorem flatK_ent [Inhabited Sp.Ent] (es : List Sp.Ent) : (flatK entC 2 es.toArray).toList = (es.map entC).flatten := by
  apply List.ext_getElem?
  intro t
  by_cases ht : t < es.length * 2
  · have h1 : t / 2 < es.length := by omega
    have h2 : (es.map entC)[t / 2]? = some (entC es[t / 2]) := by rw [List.getElem?_map, List.getElem?_eq_getElem h1]; rfl
    have hl : t % 2 < (entC es[t / 2]).length := by show _ < 2; omega
    have e := flatten_at (even_ent es) (t / 2) _ h2 (t % 2) _ (List.getElem?_eq_getElem hl)
    rw [show t / 2 * 2 + t % 2 = t by omega] at e
    rw [e, Array.getElem?_toList, Array.getElem?_eq_getElem (by rw [size_flatK]; simpa using ht)]
    have g := get_flatK entC 2 es.toArray t (by simpa using ht)
    rw [getElem!_pos _ t (by rw [size_flatK]; simpa using ht)] at g
    rw [g]
    congr 1
    have : es.toArray[t / 2]! = es[t / 2] := by rw [getElem!_pos es.toArray (t / 2) (by simpa using h1)]; simp
    rw [this]
    exact getElem!_pos (entC es[t / 2]) (t % 2) hl
  · rw [List.getElem?_eq_none (by simp; omega), List.getElem?_eq_none (by rw [(even_ent es).flatten, List.length_map]; omega)]
theorem sort_row [Inhabited Sp.Ent] {w : World} {base g n c : Nat} {es es' : List Sp.Ent} (h : Mine w base 89 2 (.slice (some ⟨g, 0, none⟩) n c) (es.map entC)) (hl : es'.length = es.length) (m : Nat) (os : Array Obj) :
    Mine (sortWorldK entC 2 w g 0 m es'.toArray os) base 89 2 (.slice (some ⟨g, 0, none⟩) n c) (es'.map entC) := by
  have hE := (even_ent es').flatten
  refine ⟨hE, Or.inr ?_⟩
  rcases h.2 with ⟨hn, _⟩ | ⟨g', cap, cur, hv, hb, hg, h1, h2, h3, h4⟩
  · cases hn
  · cases hv
    have hlt := lt_of_block hg
    rw [List.length_map] at h1 h4 hE ⊢
    rw [List.length_map]
    refine ⟨g, c, putCells id 0 (flatK entC 2 es'.toArray) cur, by rw [hl], hb, ?_, by omega, h2, ?_, ?_⟩
    · show ((mapBlock (Sort.ahead w m) g (putCells id 0 (flatK entC 2 es'.toArray))).heap ++ os)[g]? = _
      rw [Array.getElem?_append_left (by simpa [mapBlock, Sort.ahead] using hlt)]
      show ((Sort.ahead w m).heap.modify g (onCells _))[g]? = _
      rw [Array.getElem?_modify]
      have : (Sort.ahead w m).heap[g]? = some (.cells cur 89 (0, 0)) := hg
      rw [this]
      simp [onCells]
    · simp [putCells, h3]
    · apply List.ext_getElem?
      intro j
      rw [List.getElem?_take]
      split
      · rename_i hj
        rw [← flatK_ent, Array.getElem?_toList, Array.getElem?_toList]
        have hj' : j < es'.length * 2 := hj
        have hjc : j < cur.size := by have : c * 2 = cur.size := h3.symm; omega
        simp only [putCells, Array.getElem?_mapIdx, Array.getElem?_eq_getElem hjc, Option.map_some, size_flatK, List.size_toArray, Nat.zero_le, true_and, Nat.zero_add, hj', if_true, Nat.sub_zero]
        rw [getElem!_pos _ j (by rw [size_flatK]; simpa using hj'), Array.getElem?_eq_getElem (by rw [size_flatK]; simpa using hj')]
        rfl
      · rename_i hj
        rw [List.getElem?_eq_none (by rw [hE]; omega)]
theorem sort_on [Inhabited Sp.Ent] (w : World) (g m : Nat) (d : Array Sp.Ent) (os : Array Obj) : On (fun b => b < w.heap.size ∧ b ≠ g) w (sortWorldK entC 2 w g 0 m d os) := by
  intro b hb
  show ((mapBlock (Sort.ahead w m) g (putCells id 0 (flatK entC 2 d))).heap ++ os)[b]? = _
  rw [Array.getElem?_append_left (by simpa [mapBlock, Sort.ahead] using hb.1)]
  show ((Sort.ahead w m).heap.modify g (onCells _))[b]? = _
  rw [Array.getElem?_modify]
  have : ¬ g = b := fun e => hb.2 e.symm
  rw [if_neg this]
  rfl
theorem sort_size [Inhabited Sp.Ent] (w : World) (g m : Nat) (d : Array Sp.Ent) (os : Array Obj) : w.heap.size ≤ (sortWorldK entC 2 w g 0 m d os).heap.size := size_sortWorldK_c entC 2 w g 0 m d os
theorem sort_below [Inhabited Sp.Ent] (w : World) (g m : Nat) (d : Array Sp.Ent) (os : Array Obj) (hg : g < w.heap.size) (B : Nat) (hB : B ≤ g) : Below B w (sortWorldK entC 2 w g 0 m d os) :=
  ⟨rfl, rfl, rfl, sort_size w g m d os, fun k hk => sort_on w g m d os k ⟨by omega, by omega⟩⟩
theorem mine_holdsK [Inhabited Sp.Ent] {w : World} {base g n c : Nat} {es : List Sp.Ent} (h : Mine w base 89 2 (.slice (some ⟨g, 0, none⟩) n c) (es.map entC)) : HoldsK entC 2 w g 0 es.toArray := by
  obtain ⟨cur, hblk, -, -, -, -, hcur⟩ := h.blk
  intro j hj
  rw [size_flatK, List.size_toArray] at hj
  refine ⟨?_, hblk.free _⟩
  rw [hblk.cell, Nat.zero_add]
  refine hcur j _ ?_
  rw [← flatK_ent, Array.getElem?_toList, Array.getElem?_eq_getElem (by rw [size_flatK]; simpa using hj), getElem!_pos _ j (by rw [size_flatK]; simpa using hj)]
  rfl
end Go.Proofs.Ytdciohinlhbliaa
