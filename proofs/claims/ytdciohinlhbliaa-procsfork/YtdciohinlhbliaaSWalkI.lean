
/-
  store.laidOver, walked.
-/
import Derived.Test.YtdciohinlhbliaaSWalkH
import Derived.Laws.CopyOwn
namespace Go.Proofs.Ytdciohinlhbliaa
open Go.RowKit
def cellsB (l : List UInt8) : List Value := l.map fun x => .int .u8 (x.toNat : Int)
theorem cellsB_flat (l : List UInt8) : (l.map byteC).flatten = cellsB l := by
  unfold cellsB
  induction l with
  | nil => rfl
  | cons a t ih => rw [List.map_cons, List.flatten_cons, ih]; rfl
theorem cellsB_one (l : List UInt8) : ∀ v ∈ cellsB l, v.oneCell' = true := by
  intro v hv
  obtain ⟨x, _, rfl⟩ := List.mem_map.1 hv
  rfl
theorem cellsB_length (l : List UInt8) : (cellsB l).length = l.length := List.length_map ..
theorem Bytes.cells {w : World} {S : Nat → Prop} {b o c n : Nat} {l : List UInt8} (h : Bytes w S (.slice (some ⟨b, o, none⟩) n c) l) : ∀ j v, (cellsB l)[j]? = some v → w.cell? ((⟨b, o, none⟩ : Addr).add j) = some v := by
  intro j v hj
  rcases h with ⟨a, c, e, hn⟩ | ⟨b', o', c0, e, hS, h3, h4, h5⟩
  · rw [List.map_eq_nil_iff.1 hn] at hj; simp [cellsB] at hj
  · obtain ⟨h1, -, -⟩ := Value.slice.inj e
    obtain ⟨rfl, rfl, -⟩ := Addr.mk.inj (Option.some.inj h1)
    rw [← cellsB_flat] at hj
    exact Row.src (by decide) (even_byte l) h5 j v hj
theorem own_block {w : World} {base g n : Nat} {e : TypeId} {xs : List Value} (h : w.ownsRow base e 1 (.slice (some ⟨g, 0, none⟩) n n) n xs) : w.heap[g]? = some (.cells xs.toArray e (0, 0)) := by
  rcases h.2 with ⟨hn, _⟩ | ⟨g', cap, cur, hv, hb, hg, h1, h2, h3, h4⟩
  · cases hn
  · cases hv
    rw [← h4, List.take_of_length_le (by rw [Array.length_toList]; omega), Array.toArray_toList]
    exact hg
theorem bytes_block {w : World} {g : Nat} {e : TypeId} {l : List UInt8} (h : w.heap[g]? = some (.cells (cellsB l).toArray e (0, 0))) (hl : l.length ≤ maxLen) (S : Nat → Prop) (hS : S g) : Bytes w S (.slice (some ⟨g, 0, none⟩) l.length l.length) l := by
  refine Or.inr ⟨g, 0, l.length, by rw [List.length_map], hS, by rw [List.length_map]; exact Nat.le_refl _, hl, fun i cs hi j u hj => ?_⟩
  have hf := flatten_at (even_byte l) i cs hi j u hj
  rw [cellsB_flat] at hf
  have : Blk w g (cellsB l).toArray e := h
  rw [this.cell, Nat.zero_add]
  simpa using hf
theorem made_bytes (n : Nat) : (madeCells #[Value.int .u8 0] n).toList = cellsB (List.replicate n 0) := by
  rw [show n = n * 1 by omega, made_rows _ 1 n (by decide) rfl, Nat.mul_one]
  unfold cellsB
  rw [List.map_replicate]
  induction n with
  | zero => rfl
  | succ n ih => rw [List.replicate_succ, List.flatten_cons, ih, List.replicate_succ]; rfl
theorem splice_bytes (L : List UInt8) (off : Nat) (b : List UInt8) : splice (cellsB L) off (cellsB b) = cellsB (splice L off b) := by
  unfold splice cellsB
  simp [List.map_take, List.map_drop]
/-- b, laid over d from k on. -/
def lay (d : List UInt8) (k : Nat) (b : List UInt8) : List UInt8 := splice (splice (List.replicate (max d.length (k + b.length)) 0) 0 d) k b
theorem lay_length (d : List UInt8) (k : Nat) (b : List UInt8) : (lay d k b).length = max d.length (k + b.length) := by
  unfold lay
  have h1 : (splice (List.replicate (max d.length (k + b.length)) (0 : UInt8)) 0 d).length = max d.length (k + b.length) := by rw [length_splice _ _ _ (by rw [List.length_replicate]; omega), List.length_replicate]
  rw [length_splice _ _ _ (by rw [h1]; omega), h1]
end Go.Proofs.Ytdciohinlhbliaa
