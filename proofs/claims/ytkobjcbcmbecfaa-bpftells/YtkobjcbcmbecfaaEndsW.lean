/-
  The law BpfEnds, walked.
-/
import Derived.Test.YtkobjcbcmbecfaaEndsP
import Derived.Test.YtkobjcbcmbecfaaWalkG
namespace Go.Proofs.Ytkobjcbcmbecfaa
open Go.RowKit
set_option maxHeartbeats 4000000 in
theorem ends_some (p : List Bp.Ins) (r : Nat → Int) (a : Option Addr) (cap : Nat) (w : World) (hv : Holds w w.heap.size (.slice a p.length cap) p) :
    Calls Try.prog 7 #[.slice a p.length cap, recV r] w fun e w' => e = .returned (.bool true) ∧ Below w.heap.size w w' := by
  have hH : Holds (withRec w r) w.heap.size (.slice a p.length cap) p := hv.on (withRec_below w r) (Nat.le_refl _)
  clear hv
  have HE : Hid ((Bp.chk p).1 = 0 → _) := fun h => Bp.run_ends (p := p) h r
  have HN : Hid ((Bp.chk p).1 ≠ 0 → Bp.run p r = (0, 0)) := fun h => by unfold Bp.run; rw [if_pos h]
  unfold recV
  go_enter Try.func7, Try.ntmps7
  go_wp2_with fail
  refine (alive_any (withRec w r)).mono ?_
  rintro e w1 ⟨rfl, hb1⟩
  replace hH := hH.on hb1 (by rw [withRec_size]; omega)
  rw [withRec_size] at hb1
  have c0 := rec_cell hb1 0 (by omega)
  have c1 := rec_cell hb1 1 (by omega)
  have c2 := rec_cell hb1 2 (by omega)
  have c3 := rec_cell hb1 3 (by omega)
  have c4 := rec_cell hb1 4 (by omega)
  have c5 := rec_cell hb1 5 (by omega)
  have hB := rec_below hb1
  have hz := hB.size
  clear hb1
  go_wp2_with fail
  refine (run_any p r _ w1 (hH.up hz)).mono ?_
  rintro e w2 ⟨rfl, hb2⟩
  replace hH := hH.on hb2 hz
  replace hB := hB.trans (hb2.mono hz)
  have hz2 := hB.size
  clear hb2 c0 c1 c2 c3 c4 c5 hz
  go_wp2_with fail
  refine (check_any p _ w2 (hH.up hz2)).mono ?_
  rintro e w3 ⟨rfl, hb3⟩
  replace hB := hB.trans (hb3.mono hz2)
  clear hb3 hH hz2
  generalize hrun : Bp.run p r = rr at *
  generalize hchk : Bp.chk p = ck at *
  clear hrun hchk
  obtain ⟨rn, rs⟩ := rr
  obtain ⟨ce, ca⟩ := ck
  have hfe := fun (w : World) => field_err ce ca w
  unfold faultV
  by_cases h0 : ce = 0
  · subst h0
    have hE := HE.out rfl
    dsimp only at hE
    obtain ⟨h1, h2, h3⟩ := hE
    clear HE HN
    rcases h1 with rfl | rfl
    · go_wp2
      go_ret
      exact ⟨by simp, hB⟩
    · go_wp2
      go_ret
      exact ⟨by simp, hB⟩
  · have h0' : (ce != 0) = true := by simp [h0]
    have hN := HN.out h0
    simp only [Prod.mk.injEq] at hN
    obtain ⟨rfl, rfl⟩ := hN
    clear HE HN h0
    go_wp2
    go_ret
    exact ⟨by simp, hB⟩
theorem ends_any (p : List Bp.Ins) (r : Nat → Int) (v : Value) (w : World) (hv : Holds w w.heap.size v p) :
    Calls Try.prog 7 #[v, recV r] w fun e w' => e = .returned (.bool true) ∧ Below w.heap.size w w' := by
  obtain ⟨a, cap, rfl⟩ := hv.form
  exact ends_some p r a cap w hv
end Go.Proofs.Ytkobjcbcmbecfaa
