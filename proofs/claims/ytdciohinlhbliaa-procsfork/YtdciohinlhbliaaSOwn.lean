
/-
  Blocks, and rows of one's own, written.
-/
import Derived.Test.YtdciohinlhbliaaSWalkA
import Derived.OneCell
import Derived.Laws.Rows
namespace Go.Proofs.Ytdciohinlhbliaa
open Go.RowKit
theorem bcell {B : Nat} {W w1 : World} (hb : Below B W w1) : (∀ b o, b < B → w1.cell? ⟨b, o, none⟩ = W.cell? ⟨b, o, none⟩) ∧ (∀ b o, b < B → w1.frozen? ⟨b, o, none⟩ = W.frozen? ⟨b, o, none⟩) :=
  ⟨fun b o h => hb.cell (p := ⟨b, o, none⟩) h, fun b o h => hb.frozen (p := ⟨b, o, none⟩) h⟩
/-- A block, whole. -/
def Blk (w : World) (g : Nat) (cs : Array Value) (t : TypeId) : Prop := w.heap[g]? = some (.cells cs t (0, 0))
theorem Blk.lt {w : World} {g : Nat} {cs : Array Value} {t : TypeId} (h : Blk w g cs t) : g < w.heap.size := lt_of_block h
theorem Blk.cell {w : World} {g : Nat} {cs : Array Value} {t : TypeId} (h : Blk w g cs t) : ∀ j, w.cell? ⟨g, j, none⟩ = cs[j]? := by
  intro j
  unfold Blk at h
  simp [World.cell?, h]
theorem Blk.free {w : World} {g : Nat} {cs : Array Value} {t : TypeId} (h : Blk w g cs t) : ∀ j, w.frozen? ⟨g, j, none⟩ = false := by
  intro j
  unfold Blk at h
  simp [World.frozen?, h]
theorem Blk.below {w w' : World} {B g : Nat} {cs : Array Value} {t : TypeId} (h : Blk w g cs t) (hb : Below B w w') (hB : g < B) : Blk w' g cs t := (hb.block g hB).trans h
theorem Blk.on {w w' : World} {S : Nat → Prop} {g : Nat} {cs : Array Value} {t : TypeId} (h : Blk w g cs t) (hb : On S w w') (hB : S g) : Blk w' g cs t := (hb g hB).trans h
theorem Blk.new (w : World) (cs : Array Value) (t : TypeId) : Blk (w.alloc (.cells cs t)) w.heap.size cs t := by
  show (w.heap.push _)[w.heap.size]? = _
  simp
theorem Blk.alloc {w : World} {g : Nat} {cs : Array Value} {t : TypeId} (h : Blk w g cs t) (o : Obj) : Blk (w.alloc o) g cs t := (Below.heap_alloc w o g h.lt).trans h
theorem Blk.set {w : World} {g : Nat} {cs : Array Value} {t : TypeId} (h : Blk w g cs t) (i : Nat) (v : Value) : Blk (w.setCell ⟨g, i, none⟩ v) g (cs.setIfInBounds i v) t := heap_setCell_same w g i cs t v h
theorem Blk.other {w : World} {g : Nat} {cs : Array Value} {t : TypeId} (h : Blk w g cs t) {a : Addr} (ha : g ≠ a.block) (v : Value) : Blk (w.setCell a v) g cs t := (heap_setCell_other w a g v ha).trans h
theorem On.set (w : World) (a : Addr) (v : Value) : On (fun b => b ≠ a.block) w (w.setCell a v) := fun b hb => heap_setCell_other w a b v hb
theorem On.alloc (w : World) (o : Obj) : On (fun b => b < w.heap.size) w (w.alloc o) := fun b hb => Below.heap_alloc w o b hb
theorem Mine.on {w w' : World} {base k : Nat} {e : TypeId} {v : Value} {css : List (List Value)} {S : Nat → Prop} (h : Mine w base e k v css) (ho : On S w w') (hS : ∀ g, v.ownBlock = some g → S g) : Mine w' base e k v css := by
  refine ⟨h.1, ?_⟩
  rcases h.2 with hn | ⟨g, cap, cur, hv, hb, hg, rest⟩
  · exact Or.inl hn
  · exact Or.inr ⟨g, cap, cur, hv, hb, (ho g (hS g (by rw [hv]; rfl))).trans hg, rest⟩
theorem Mine.lt {w : World} {base k : Nat} {e : TypeId} {v : Value} {css : List (List Value)} (h : Mine w base e k v css) : ∀ g, v.ownBlock = some g → base ≤ g ∧ g < w.heap.size := World.ownsRow.lt h
theorem Mine.base {w : World} {base base' k : Nat} {e : TypeId} {v : Value} {css : List (List Value)} (h : Mine w base e k v css) (hb : ∀ g, v.ownBlock = some g → base' ≤ g) : Mine w base' e k v css := by
  refine ⟨h.1, ?_⟩
  rcases h.2 with hn | ⟨g, cap, cur, hv, _, rest⟩
  · exact Or.inl hn
  · exact Or.inr ⟨g, cap, cur, hv, hb g (by rw [hv]; rfl), rest⟩
theorem flatten_set {k : Nat} : ∀ {css : List (List Value)}, Even k css → ∀ (i j : Nat) (cs : List Value) (u : Value), css[i]? = some cs → j < k → (css.set i (cs.set j u)).flatten = css.flatten.set (i * k + j) u
  | [], _, i, j, cs, u, h, _ => by simp at h
  | a :: t, hE, 0, j, cs, u, h, hj => by
    simp at h
    subst h
    have ha := hE a List.mem_cons_self
    simp only [List.set_cons_zero, List.flatten_cons, Nat.zero_mul, Nat.zero_add]
    rw [List.set_append_left _ _ (by omega)]
  | a :: t, hE, i + 1, j, cs, u, h, hj => by
    have ha := hE a List.mem_cons_self
    have hm : (i + 1) * k = i * k + k := Nat.succ_mul i k
    simp only [List.set_cons_succ, List.flatten_cons]
    rw [List.set_append_right _ _ (by omega), ha, show (i + 1) * k + j - k = i * k + j by omega]
    rw [flatten_set (fun cs hcs => hE cs (List.mem_cons_of_mem _ hcs)) i j cs u (by simpa using h) hj]
theorem Mine.set {w : World} {base k g n c : Nat} {e : TypeId} {css : List (List Value)} (h : Mine w base e k (.slice (some ⟨g, 0, none⟩) n c) css) (hE : Even k css) (i j : Nat) (cs : List Value) (u : Value) (hi : css[i]? = some cs) (hj : j < k) : Mine (w.setCell ⟨g, i * k + j, none⟩ u) base e k (.slice (some ⟨g, 0, none⟩) n c) (css.set i (cs.set j u)) := by
  have hlen := (List.getElem?_eq_some_iff.1 hi).1
  have hfl := hE.flatten
  have hE' : Even k (css.set i (cs.set j u)) := by
    intro x hx
    rcases List.mem_or_eq_of_mem_set hx with h1 | h1
    · exact hE x h1
    · rw [h1, List.length_set]; exact hE cs (List.mem_of_getElem? hi)
  refine ⟨hE'.flatten, Or.inr ?_⟩
  rcases h.2 with ⟨hn, _⟩ | ⟨g', cap, cur, hv, hb, hg, h1, h2, h3, h4⟩
  · cases hn
  · cases hv
    refine ⟨g, c, cur.setIfInBounds (i * k + j) u, by rw [List.length_set], hb, heap_setCell_same w g _ cur e u hg, by rw [List.length_set]; exact h1, h2, by rw [Array.size_setIfInBounds]; exact h3, ?_⟩
    rw [flatten_set hE i j cs u hi hj, ← h4, List.length_set, Array.toList_setIfInBounds, List.take_set]
theorem Mine.blk {w : World} {base k g n c : Nat} {e : TypeId} {css : List (List Value)} (h : Mine w base e k (.slice (some ⟨g, 0, none⟩) n c) css) : ∃ cur, Blk w g cur e ∧ n = css.length ∧ n ≤ c ∧ c ≤ maxLen ∧ cur.size = c * k ∧ ∀ (j : Nat) (u : Value), css.flatten[j]? = some u → cur[j]? = some u := by
  rcases h.2 with ⟨hn, _⟩ | ⟨g', cap, cur, hv, hb, hg, h1, h2, h3, h4⟩
  · cases hn
  · cases hv
    refine ⟨cur, hg, rfl, h1, h2, h3, fun j u hj => ?_⟩
    rw [← h4, List.getElem?_take] at hj
    split at hj
    · rw [← Array.getElem?_toList]; exact hj
    · cases hj
end Go.Proofs.Ytdciohinlhbliaa
