/-
  What is written, and read: plain facts; the refusals' way.
-/
import Derived.Test.YtihfmlillgklkacSAlive
namespace Go.Proofs.Ytihfmlillgklkac
open Go.RowKit
theorem splice_at {α : Type} (L : List α) (off : Nat) (cs : List α) (h : off + cs.length ≤ L.length) (j : Nat) : (splice L off cs)[j]? = if off ≤ j ∧ j < off + cs.length then cs[j - off]? else L[j]? := by
  unfold splice
  by_cases h1 : j < off
  · rw [List.getElem?_append_left (by rw [List.length_take]; omega), if_neg (by omega), List.getElem?_take, if_pos h1]
  · rw [List.getElem?_append_right (by rw [List.length_take]; omega), List.length_take, Nat.min_eq_left (by omega)]
    by_cases h2 : j < off + cs.length
    · rw [List.getElem?_append_left (by omega), if_pos (by omega)]
    · rw [List.getElem?_append_right (by omega), if_neg (by omega), List.getElem?_drop]
      congr 1
      omega
theorem lay_at (d : List UInt8) (k : Nat) (b : List UInt8) (j : Nat) : (lay d k b)[j]? = if k ≤ j ∧ j < k + b.length then b[j - k]? else if j < d.length then d[j]? else if j < k + b.length then some 0 else none := by
  have h1 : (splice (List.replicate (max d.length (k + b.length)) (0 : UInt8)) 0 d).length = max d.length (k + b.length) := by rw [length_splice _ _ _ (by rw [List.length_replicate]; omega), List.length_replicate]
  unfold lay
  rw [splice_at _ _ _ (by rw [h1]; omega)]
  by_cases hj : k ≤ j ∧ j < k + b.length
  · rw [if_pos hj, if_pos hj]
  · rw [if_neg hj, if_neg hj, splice_at _ _ _ (by rw [List.length_replicate]; omega)]
    by_cases h2 : j < d.length
    · rw [if_pos (by omega), if_pos h2, Nat.sub_zero]
    · rw [if_neg (by omega), if_neg h2, List.getElem?_replicate]
      by_cases h3 : j < k + b.length
      · rw [if_pos (by omega), if_pos h3]
      · rw [if_neg (by omega), if_neg h3]
def wrote (d : List UInt8) (k : Nat) (b : List UInt8) : List UInt8 := if 0 < b.length then lay d k b else d
theorem wrote_read (d : List UInt8) (k : Nat) (b : List UInt8) : ((wrote d k b).drop k).take b.length = b := by
  unfold wrote
  by_cases h0 : 0 < b.length
  · rw [if_pos h0]
    apply List.ext_getElem?
    intro j
    rw [List.getElem?_take]
    by_cases hj : j < b.length
    · rw [if_pos hj, List.getElem?_drop, lay_at, if_pos (by omega)]
      congr 1
      omega
    · rw [if_neg hj, List.getElem?_eq_none (by omega)]
  · rw [if_neg h0, List.length_eq_zero_iff.1 (show b.length = 0 by omega)]
    simp
theorem one_of (l : List UInt8) (q : Nat) : (l.drop q).take 1 = (l[q]?).toList := by
  apply List.ext_getElem?
  intro j
  rw [List.getElem?_take]
  cases j with
  | zero => rw [if_pos (by omega), List.getElem?_drop, Nat.add_zero]; cases l[q]? <;> rfl
  | succ j => rw [if_neg (by omega)]; cases l[q]? <;> rfl
/-- Outside what was written: as it was, or noughts. -/
theorem wrote_other (d : List UInt8) (k : Nat) (b : List UInt8) (q : Nat) (hq : ¬ (k ≤ q ∧ q < k + b.length)) : ((d.drop q).take 1 = [] ∧ (((wrote d k b).drop q).take 1 = [] ∨ ((wrote d k b).drop q).take 1 = [0])) ∨ ∃ x, (d.drop q).take 1 = [x] ∧ ((wrote d k b).drop q).take 1 = [x] := by
  rw [one_of, one_of]
  unfold wrote
  by_cases h0 : 0 < b.length
  · rw [if_pos h0, lay_at, if_neg hq]
    by_cases h2 : q < d.length
    · rw [if_pos h2, List.getElem?_eq_getElem h2]
      exact Or.inr ⟨_, rfl, rfl⟩
    · rw [if_neg h2, List.getElem?_eq_none (by omega)]
      refine Or.inl ⟨rfl, ?_⟩
      by_cases h3 : q < k + b.length
      · rw [if_pos h3]; exact Or.inr rfl
      · rw [if_neg h3]; exact Or.inl rfl
  · rw [if_neg h0]
    cases d[q]? with
    | none => exact Or.inl ⟨rfl, Or.inl rfl⟩
    | some x => exact Or.inr ⟨x, rfl, rfl⟩
def fileOf (d : List UInt8) : Sp.Ob := ⟨1, d, [], ⟨#[]⟩, 0, [], 0, 0, 0⟩
theorem fits_file (d : List UInt8) (hd : d.length ≤ 140737488355328) : Fits (fileOf d) := ⟨hd, by simp [fileOf], by simp [fileOf], fun m hm => by simp [fileOf] at hm⟩
theorem fileC (a : Option Addr) (n c : Nat) (d : List UInt8) : (objC (⟨⟨a, n, c⟩, nilSl, nilSl⟩, fileOf d)).toArray = #[.int .i64 1, .slice a n c, .slice none 0 0, .string ⟨#[]⟩, .int .i64 0, .slice none 0 0, .int .i64 0, .int .i64 0, .int .i64 0] := rfl
theorem write_file (d : List UInt8) (k : Nat) (b : List UInt8) : Sp.write (fileOf d) k b = fileOf (wrote d k b) := rfl
set_option maxHeartbeats 4000000 in
theorem writes_err (d b : List UInt8) (p q : Int) (vd vb : Value) (w : World) (hd : Bytes w (fun x => x < w.heap.size) vd d) (hb : Bytes w (fun x => x < w.heap.size) vb b) (he : Sp.writeErr (fileOf d) p b ≠ 0) :
    Calls Try.prog 5 #[vd, .int .i64 p, vb, .int .i64 q] w fun e w' => e = .returned (.bool true) ∧ Below w.heap.size w w' := by
  obtain ⟨da, dc, rfl, -⟩ := Row.form hd
  obtain ⟨ba, bc, rfl, -⟩ := Row.form hb
  rw [List.length_map] at hd hb ⊢
  rw [List.length_map]
  have HW : Hid (∀ W, Below w.heap.size w W → Calls Try.prog 20 #[.agg (objC (⟨⟨da, d.length, dc⟩, nilSl, nilSl⟩, fileOf d)).toArray, .int .i64 p, .slice ba b.length bc] W fun e w' => e = .returned (.tuple #[.agg zeroC.toArray, .int .i64 (Sp.writeErr (fileOf d) p b)]) ∧ Below W.heap.size W w') := fun W hW => write_err _ (fileOf d) p b _ _ W (Row.on hb (On.of hW)) he
  simp only [fileC] at HW
  have he' : (Sp.writeErr (fileOf d) p b != 0) = true := by simpa using he
  clear hd hb he
  generalize Sp.writeErr (fileOf d) p b = er at *
  unfold zeroC at HW
  go_enter Try.func5, Try.ntmps5
  go_wp2_with fail
  refine (alive5_any w).mono ?_
  rintro e w1 ⟨rfl, hb1⟩
  have HB1 : Hid (Below w.heap.size w w1) := hb1
  clear hb1
  go_wp2_with fail
  refine Calls.mono (HW.out _ (HB1.out.alloc HB1.out.size _)) ?_
  rintro e w2 ⟨rfl, hb2⟩
  have HB2 : Hid (Below w.heap.size w w2) := (HB1.out.alloc HB1.out.size _).trans (hb2.mono (by have := HB1.out.size; simp; omega))
  clear hb2 HW
  go_wp2
  go_ret
  exact ⟨rfl, HB2.out.alloc HB2.out.size _⟩
end Go.Proofs.Ytihfmlillgklkac
