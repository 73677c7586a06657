/-
  A record that lies there, and calls that leave it; faults that are one.
-/
import Derived.Test.YtkikghdcnejjfabGPlain
import Derived.Test.YtkikghdcnejjfabGWalkC
namespace Go.Proofs.Ytkikghdcnejjfab
open Go.RowKit
theorem partF_0 (a b : Int) (w : World) : (part 25 #[.int .i64 a, .int .i64 b] 0).run Try.prog w = .ok (.int .i64 a) w := by kernel_rfl
theorem partF_1 (a b : Int) (w : World) : (part 3 #[.int .i64 a, .int .i64 b] 1).run Try.prog w = .ok (.int .i64 b) w := by kernel_rfl
theorem fieldsFault : Try.prog.underlying 27 = some (.struct (Try.prog.fieldsOf 27)) := by unfold Program.fieldsOf; rw [Try.underlying27]
theorem eqFault' (n : Nat) (a b : Int) (w : World) : (Op.equalIn (n + 2) 27 (.agg #[.int .i64 a, .int .i64 b]) (.agg #[.int .i64 a, .int .i64 b])).run Try.prog w = .ok true w := by
  rw [run_equalIn_struct w (n + 1) 27 _ _ fieldsFault (by kernel_rfl)]
  unfold Program.fieldsOf
  rw [Try.underlying27]
  have q := fun (x y : Int) (w : World) => run_equalIn_int (P := Try.prog) w n 3 .i64 .i64 x y Try.underlying3
  have q' := fun (x y : Int) (w : World) => run_equalIn_int (P := Try.prog) w n 25 .i64 .i64 x y Try.underlying25
  simp [Op.eqFields, partF_0, partF_1, q, q']
theorem eqFault (a b : Int) (w : World) : (Op.equalIn 10000 27 (.agg #[.int .i64 a, .int .i64 b]) (.agg #[.int .i64 a, .int .i64 b])).run Try.prog w = .ok true w := eqFault' 9998 a b w
theorem guardFault : Try.prog.eqGuardType Try.prog.depth 27 = false := by kernel_rfl
/-- All below is as it was, and the record lies there. -/
structure RB (w : World) (r : Nat → Int) (W : World) : Prop where
  bel : Below (w.heap.size + 1) (withRec w r) W
  c0 : W.cell? ⟨w.heap.size, 0, none⟩ = some (.int .i64 (r 0))
  c1 : W.cell? ⟨w.heap.size, 1, none⟩ = some (.int .i64 (r 1))
  c2 : W.cell? ⟨w.heap.size, 2, none⟩ = some (.int .i64 (r 2))
  c3 : W.cell? ⟨w.heap.size, 3, none⟩ = some (.int .i64 (r 3))
  c4 : W.cell? ⟨w.heap.size, 4, none⟩ = some (.int .i64 (r 4))
  c5 : W.cell? ⟨w.heap.size, 5, none⟩ = some (.int .i64 (r 5))
theorem RB.of {w : World} {r : Nat → Int} {W : World} (h : Below (w.heap.size + 1) (withRec w r) W) : RB w r W :=
  ⟨h, rec_cell h 0 (by omega), rec_cell h 1 (by omega), rec_cell h 2 (by omega), rec_cell h 3 (by omega), rec_cell h 4 (by omega), rec_cell h 5 (by omega)⟩
theorem RB.drew {w : World} {r : Nat → Int} {W : World} (h : RB w r W) : RB w r W.drew := RB.of h.bel.drew
theorem RB.holds {w : World} {r : Nat → Int} {W : World} (h : RB w r W) {v : Value} {l : List Gp.Pol} (hv : PHolds w w.heap.size v l) : PHolds W W.heap.size v l :=
  ((hv.on (withRec_below w r) (Nat.le_refl _)).on h.bel (Nat.le_succ _)).up (by have := h.bel.size; rw [withRec_size] at this; omega)
theorem RB.trans {w : World} {r : Nat → Int} {W W' : World} (h : RB w r W) (hb : Below W.heap.size W W') : RB w r W' :=
  RB.of (h.bel.trans (hb.mono (by have := h.bel.size; rw [withRec_size] at this; omega)))
/-- A call that answers so wherever the record lies. -/
def Says (w : World) (r : Nat → Int) (f : Nat) (args : Array Value) (x : Value) : Prop := ∀ W, RB w r W → Calls Try.prog f args W fun e w' => e = .returned x ∧ RB w r w'
end Go.Proofs.Ytkikghdcnejjfab
