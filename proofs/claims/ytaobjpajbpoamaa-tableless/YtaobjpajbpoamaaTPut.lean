/-
  table.Put, Dup, walked.
-/
import Derived.Test.YtaobjpajbpoamaaTPutB
import Derived.Test.YtaobjpajbpoamaaTPutC
namespace Go.Proofs.Ytaobjpajbpoamaa
open Go.RowKit
theorem tput_any (l : List Tb.Slt) (op rt : Int) (v : Value) (S : Nat → Prop) (w : World) (hv : Tab w S v l) (hS : ∀ b, S b → b < w.heap.size) (hU : l.length * 24 ≤ 140737488355328) :
    Calls Try.prog 29 #[v, .agg #[.int .i64 op, .int .i64 rt]] w fun e w' => ∃ v', e = .returned (.tuple #[v', .int .i64 (Tb.putR l op rt).2.1, .int .i64 (Tb.putR l op rt).2.2]) ∧ TabNew w w' v' (Tb.putR l op rt).1 := by
  by_cases h : Tb.right rt = false ∨ op < 0
  · exact tput_range l op rt v w h
  · have hr : Tb.right rt = true := by
      cases hr : Tb.right rt with
      | true => rfl
      | false => exact absurd (Or.inl hr) h
    have h0 : ¬ op < 0 := fun h' => h (Or.inr h')
    cases hf : Tb.freeFrom l 0 with
    | none =>
      by_cases hl : 10 ≤ l.length
      · rw [putR_full h hf hl]
        exact tput_full l op rt v S w hv hS hr h0 hf hl
      · rw [putR_app h hf hl]
        exact tput_app l op rt v S w hv hS hU hr h0 hf hl
    | some k =>
      rw [putR_at h hf]
      exact tput_at l op rt v S w hv hS hU hr h0 k hf
/-- What Dup answers. -/
def dupR (l : List Tb.Slt) (fd : Int) : List Tb.Slt × Int × Int := match Tb.get l fd with
  | none => ([], 0, 6)
  | some x => Tb.putR l x.op x.rt
theorem dupR_none {l : List Tb.Slt} {fd : Int} (h : Tb.get l fd = none) : dupR l fd = ([], 0, 6) := by unfold dupR; rw [h]
theorem dupR_some {l : List Tb.Slt} {fd : Int} {x : Tb.Slt} (h : Tb.get l fd = some x) : dupR l fd = Tb.putR l x.op x.rt := by unfold dupR; rw [h]
set_option maxRecDepth 100000 in
theorem tdup_any (l : List Tb.Slt) (fd : Int) (v : Value) (S : Nat → Prop) (w : World) (hv : Tab w S v l) (hS : ∀ b, S b → b < w.heap.size) (hU : l.length * 24 ≤ 140737488355328) :
    Calls Try.prog 37 #[v, .int .i64 fd] w fun e w' => ∃ v', e = .returned (.tuple #[v', .int .i64 (dupR l fd).2.1, .int .i64 (dupR l fd).2.2]) ∧ TabNew w w' v' (dupR l fd).1 := by
  have HG0 := tget_any l fd v S w hv hS
  cases hg : Tb.get l fd with
  | none =>
    rw [hg] at HG0
    have HG : Hid (Calls Try.prog 27 #[v, .int .i64 fd] w fun e w' => e = .returned (.tuple #[.agg #[.int .i64 0, .int .i64 0], .int .i64 6]) ∧ Below w.heap.size w w') := HG0
    rw [dupR_none hg]
    show Calls Try.prog 37 #[v, .int .i64 fd] w fun e w' => ∃ v', e = .returned (.tuple #[v', .int .i64 0, .int .i64 6]) ∧ TabNew w w' v' []
    clear HG0 hg hv hS hU
    go_enter Try.func37, Try.ntmps37
    go_wp2_with fail
    refine HG.out.mono ?_
    rintro e w1 ⟨rfl, hb1⟩
    have HB : Hid (Below w.heap.size w w1) := hb1
    clear hb1
    go_wp2
    go_ret3
    exact ⟨_, rfl, Row.nil _ _ _ _ _, HB.out.alloc HB.out.size _⟩
  | some x =>
    rw [hg] at HG0
    have HG : Hid (Calls Try.prog 27 #[v, .int .i64 fd] w fun e w' => e = .returned (.tuple #[.agg #[.int .i64 x.op, .int .i64 x.rt], .int .i64 0]) ∧ Below w.heap.size w w') := HG0
    rw [dupR_some hg]
    have HP : Hid (∀ W, Below w.heap.size w W → Calls Try.prog 29 #[v, .agg #[.int .i64 x.op, .int .i64 x.rt]] W fun e w' => ∃ v', e = .returned (.tuple #[v', .int .i64 (Tb.putR l x.op x.rt).2.1, .int .i64 (Tb.putR l x.op x.rt).2.2]) ∧ TabNew W w' v' (Tb.putR l x.op x.rt).1) := fun W hW => tput_any l x.op x.rt v S W (hv.below hW hS) (fun b hb => by have := hS b hb; have := hW.size; omega) hU
    clear HG0 hg hv hS hU
    generalize Tb.putR l x.op x.rt = R at *
    go_enter Try.func37, Try.ntmps37
    go_wp2_with fail
    refine HG.out.mono ?_
    rintro e w1 ⟨rfl, hb1⟩
    have HB : Hid (Below w.heap.size w (w1.alloc (.cells #[.int .i64 x.op, .int .i64 x.rt] 58))) := hb1.alloc hb1.size _
    clear hb1
    go_wp2_with fail
    refine (HP.out _ HB.out).mono ?_
    rintro e w2 ⟨v2, rfl, hn⟩
    have HN : Hid (TabNew w w2 v2 R.1) := ⟨hn.1.more fun b hb => ⟨by have := HB.out.size; omega, hb.2⟩, HB.out.trans (hn.2.mono HB.out.size)⟩
    clear hn HP
    go_wp2
    go_ret3
    exact ⟨_, rfl, HN.out⟩
end Go.Proofs.Ytaobjpajbpoamaa
