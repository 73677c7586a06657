/-
  table.Put, walked.
-/
import Derived.Test.YtaobjpajbpoamaaTMine
import Derived.Deep.RegionHeld3
namespace Go.Proofs.Ytaobjpajbpoamaa
open Go.RowKit
theorem putR_range {l : List Tb.Slt} {op rt : Int} (h : Tb.right rt = false ∨ op < 0) : Tb.putR l op rt = ([], 0, 3) := by unfold Tb.putR; rw [if_pos h]
theorem putR_at {l : List Tb.Slt} {op rt : Int} {k : Nat} (h : ¬ (Tb.right rt = false ∨ op < 0)) (hk : Tb.freeFrom l 0 = some k) : Tb.putR l op rt = (l.set k ⟨true, op, rt⟩, (k : Int), 0) := by unfold Tb.putR; rw [if_neg h, hk]
theorem putR_full {l : List Tb.Slt} {op rt : Int} (h : ¬ (Tb.right rt = false ∨ op < 0)) (hk : Tb.freeFrom l 0 = none) (hl : 10 ≤ l.length) : Tb.putR l op rt = ([], 0, 15) := by unfold Tb.putR; rw [if_neg h, hk]; exact if_pos hl
theorem putR_app {l : List Tb.Slt} {op rt : Int} (h : ¬ (Tb.right rt = false ∨ op < 0)) (hk : Tb.freeFrom l 0 = none) (hl : ¬ 10 ≤ l.length) : Tb.putR l op rt = (l ++ [⟨true, op, rt⟩], (l.length : Int), 0) := by unfold Tb.putR; rw [if_neg h, hk]; exact if_neg hl
/-- A world in which the capability lies in its box. -/
def PutW (w : World) (op rt : Int) (W : World) : Prop := Below w.heap.size w W ∧ Blk W w.heap.size #[.int .i64 op, .int .i64 rt] 58
theorem tput_range (l : List Tb.Slt) (op rt : Int) (v : Value) (w : World) (h : Tb.right rt = false ∨ op < 0) :
    Calls Try.prog 29 #[v, .agg #[.int .i64 op, .int .i64 rt]] w fun e w' => ∃ v', e = .returned (.tuple #[v', .int .i64 (Tb.putR l op rt).2.1, .int .i64 (Tb.putR l op rt).2.2]) ∧ TabNew w w' v' (Tb.putR l op rt).1 := by
  rw [putR_range h]
  show Calls Try.prog 29 #[v, .agg #[.int .i64 op, .int .i64 rt]] w fun e w' => ∃ v', e = .returned (.tuple #[v', .int .i64 0, .int .i64 3]) ∧ TabNew w w' v' []
  have HR : Hid (∀ W, Calls Try.prog 60 #[.int .i64 rt] W fun e w' => e = .returned (.bool (Tb.right rt)) ∧ w' = W) := fun W => rightsRight rt W
  cases hr : Tb.right rt with
  | false =>
    rw [hr] at HR
    clear h hr
    go_enter Try.func29, Try.ntmps29
    go_wp2_with fail
    refine (HR.out _).mono ?_
    rintro e w1 ⟨rfl, rfl⟩
    go_wp2
    go_ret3
    exact ⟨_, rfl, Row.nil _ _ _ _ _, (Below.refl _ _).alloc (Nat.le_refl _) _⟩
  | true =>
    rw [hr] at HR
    have h0 : op < 0 := by
      rcases h with h | h
      · rw [hr] at h; cases h
      · exact h
    clear h hr
    go_enter Try.func29, Try.ntmps29
    go_wp2_with fail
    refine (HR.out _).mono ?_
    rintro e w1 ⟨rfl, rfl⟩
    go_wp2
    go_ret3
    exact ⟨_, rfl, Row.nil _ _ _ _ _, (Below.refl _ _).alloc (Nat.le_refl _) _⟩
set_option maxRecDepth 100000 in
set_option maxHeartbeats 4000000 in
theorem tput_full (l : List Tb.Slt) (op rt : Int) (v : Value) (S : Nat → Prop) (w : World) (hv : Tab w S v l) (hS : ∀ b, S b → b < w.heap.size) (hr : Tb.right rt = true) (h0 : ¬ op < 0) (hf : Tb.freeFrom l 0 = none) (hl : 10 ≤ l.length) :
    Calls Try.prog 29 #[v, .agg #[.int .i64 op, .int .i64 rt]] w fun e w' => ∃ v', e = .returned (.tuple #[v', .int .i64 0, .int .i64 15]) ∧ TabNew w w' v' [] := by
  obtain ⟨a, c, rfl, hm⟩ := hv.form
  have HR : Hid (∀ W, Calls Try.prog 60 #[.int .i64 rt] W fun e w' => e = .returned (.bool true) ∧ w' = W) := fun W => by have := rightsRight rt W; rw [hr] at this; exact this
  have HT : Hid (Tab w S (.slice a l.length c) l) := hv
  have HS : Hid (∀ b, S b → b < w.heap.size) := hS
  have HF : Hid (Tb.freeFrom l 0 = none) := hf
  clear hv hS hm hr hf
  go_enter Try.func29, Try.ntmps29
  go_wp2_with fail
  refine (HR.out _).mono ?_
  rintro e w1 ⟨rfl, rfl⟩
  clear HR
  go_wp2_with fail
  have HB0 : Hid (Below w.heap.size w (w.alloc (.cells #[.int .i64 op, .int .i64 rt] 58))) := (Below.refl _ _).alloc (Nat.le_refl _) _
  have HK0 : Hid (Blk (w.alloc (.cells #[.int .i64 op, .int .i64 rt] 58)) w.heap.size #[.int .i64 op, .int .i64 rt] 58) := Blk.new w _ _
  have hz0 : (w.alloc (.cells #[.int .i64 op, .int .i64 rt] 58)).heap.size = w.heap.size + 1 := by simp
  have HZ0 : Hid _ := hz0
  clear hz0
  generalize w.alloc (.cells #[.int .i64 op, .int .i64 rt] 58) = w0 at *
  refine (tidx_any l (.slice a l.length c) S w0 (HT.out.below HB0.out HS.out) (fun b hb => by have := HS.out b hb; have := HZ0.out; omega)).mono ?_
  rintro e w1 ⟨rfl, hb1⟩
  rw [idx_none HF.out]
  have HB1 : Hid (Below w.heap.size w w1) := HB0.out.trans (hb1.mono (by have := HZ0.out; omega))
  have HK1 : Hid (Blk w1 w.heap.size #[.int .i64 op, .int .i64 rt] 58) := HK0.out.below hb1 (by have := HZ0.out; omega)
  have c0 : w1.cell? ⟨w.heap.size, 0, none⟩ = some (.int .i64 op) := HK1.out.cell 0
  have c1 : w1.cell? ⟨w.heap.size, 1, none⟩ = some (.int .i64 rt) := HK1.out.cell 1
  have hlt1 := HK1.out.lt
  clear HB0 HK0 HZ0 hb1
  have hl' : (10 : Int) ≤ (l.length : Int) := by omega
  go_wp2
  go_ret3
  exact ⟨_, rfl, Row.nil _ _ _ _ _, HB1.out⟩
end Go.Proofs.Ytaobjpajbpoamaa
