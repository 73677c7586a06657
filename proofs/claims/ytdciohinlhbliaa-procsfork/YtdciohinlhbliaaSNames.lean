
/-
  store.Names, walked.
-/
import Derived.Test.YtdciohinlhbliaaSRemove
namespace Go.Proofs.Ytdciohinlhbliaa
open Go.RowKit
def strC (x : ByteArray) : List Value := [.string x]
theorem even_str (l : List ByteArray) : Even 1 (l.map strC) := by
  intro cs h
  obtain ⟨x, _, rfl⟩ := List.mem_map.1 h
  rfl
theorem Try.infoStr : (Try.prog.info? 9).map (fun i => (i.zero, i.size, i.bytes)) = some (some (.string ⟨#[]⟩), 1, 16) := by kernel_rfl
/-- The names' loop. -/
def NInv (w w1 : World) (g : Nat) (es : List Sp.Ent) (k : Nat) (wr : World) : Prop :=
  Below w.heap.size w wr ∧ On (fun b => b < w1.heap.size ∧ b ≠ g) w1 wr ∧ w1.heap.size ≤ wr.heap.size ∧ Mine wr w.heap.size 9 1 (.slice (some ⟨g, 0, none⟩) es.length es.length) (((es.take k).map fun e => strC e.name) ++ List.replicate (es.length - k) [.string ⟨#[]⟩])
theorem even_ninv (es : List Sp.Ent) (k n : Nat) : Even 1 (((es.take k).map fun e => strC e.name) ++ List.replicate n [Value.string ⟨#[]⟩]) := by
  intro cs hcs
  rcases List.mem_append.1 hcs with h | h
  · obtain ⟨x, _, rfl⟩ := List.mem_map.1 h
    rfl
  · rw [(List.mem_replicate.1 h).2]; rfl
theorem NInv.step {w w1 wr : World} {g k : Nat} {es : List Sp.Ent} {x : Sp.Ent} {o : Obj} (h : NInv w w1 g es k wr) (hk : k < es.length) (hx : es[k]? = some x) (hg : w.heap.size ≤ g) (_hg1 : g < w1.heap.size) : NInv w w1 g es (k + 1) ((wr.setCell ⟨g, k, none⟩ (.string x.name)).alloc o) := by
  obtain ⟨h1, h2, h3, h4⟩ := h
  have hsz : (wr.setCell ⟨g, k, none⟩ (.string x.name)).heap.size = wr.heap.size := by simp
  have hsz2 : ((wr.setCell ⟨g, k, none⟩ (.string x.name)).alloc o).heap.size = wr.heap.size + 1 := by simp
  refine ⟨(h1.setCell hg _).alloc (by rw [hsz]; exact h1.size) o, h2.trans (((On.set wr ⟨g, k, none⟩ _).less fun b hb => hb.2).trans ((On.alloc _ o).less fun b hb => by omega)), by omega, ?_⟩
  have hkl : ((es.take k).map fun e => strC e.name).length = k := by rw [List.length_map, List.length_take]; omega
  have hget : (((es.take k).map fun e => strC e.name) ++ List.replicate (es.length - k) [Value.string ⟨#[]⟩])[k]? = some [Value.string ⟨#[]⟩] := by
    rw [List.getElem?_append_right (by omega), hkl, Nat.sub_self, List.getElem?_replicate, if_pos (by omega)]
  have hm := h4.set (even_ninv es k _) k 0 _ (.string x.name) hget (by decide)
  rw [List.set_append_right _ _ (by omega), hkl, Nat.sub_self, show es.length - k = (es.length - (k + 1)) + 1 by omega, List.replicate_succ, List.set_cons_zero] at hm
  rw [List.take_add_one, hx]
  simp only [Nat.mul_one, Nat.add_zero] at hm
  rw [Option.toList_some, List.map_append, List.append_assoc]
  exact hm.on (On.alloc _ o) fun g hg => (hm.lt g hg).2
end Go.Proofs.Ytdciohinlhbliaa
