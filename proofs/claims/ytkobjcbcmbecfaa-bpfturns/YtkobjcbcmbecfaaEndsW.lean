/-
  The law BpfEnds, walked.
-/
import Derived.Test.YtkobjcbcmbecfaaWalkG
namespace Go.Proofs.Ytkobjcbcmbecfaa
open Go.RowKit
namespace Bp
theorem from_ends {p : List Ins} (h : Good p) (r : Nat → Int) : ∀ (n a : Nat) (acc : Int), n = p.length - a → a < p.length → ((from' r (p.drop a) acc).1 = 1 ∨ (from' r (p.drop a) acc).1 = 0) ∧ 1 ≤ (from' r (p.drop a) acc).2 ∧ (from' r (p.drop a) acc).2 + a ≤ p.length := by
  intro n
  induction n using Nat.strongRecOn with
  | ind n ih =>
    intro a acc hn ha
    have hx : p[a]? = some p[a] := List.getElem?_eq_getElem ha
    by_cases h6 : p[a].op = 6
    · rw [from_last r acc hx h6]
      have := wrong_zero (h.each a _ hx)
      dsimp only
      omega
    · rw [from_step r acc hx h6]
      have ho := over_ok h hx h6 acc
      have := ih (p.length - (a + 1 + (over p[a] acc).toNat)) (by omega) (a + 1 + (over p[a] acc).toNat) (acc' r p[a] acc) rfl ho.2
      dsimp only
      omega
theorem run_ends {p : List Ins} (h : (chk p).1 = 0) (r : Nat → Int) : ((run p r).1 = 1 ∨ (run p r).1 = 0) ∧ 1 ≤ (run p r).2 ∧ (run p r).2 ≤ p.length := by
  have hg := (good_iff p).1 h
  have := from_ends hg r p.length 0 0 (by omega) (by have := hg.one; omega)
  unfold run
  rw [if_neg (by simpa using h)]
  simpa using this
end Bp
theorem Holds.form {w : World} {B : Nat} {v : Value} {p : List Bp.Ins} (h : Holds w B v p) : ∃ a cap, v = .slice a p.length cap := by
  rcases h with ⟨a, cap, rfl, rfl⟩ | ⟨b, o, cap, rfl, _⟩
  · exact ⟨a, cap, rfl⟩
  · exact ⟨_, cap, rfl⟩
set_option maxHeartbeats 4000000 in
theorem ends_some (p : List Bp.Ins) (r : Nat → Int) (a : Option Addr) (cap : Nat) (w : World) (hv : Holds w w.heap.size (.slice a p.length cap) p) :
    Calls Try.prog 7 #[.slice a p.length cap, recV r] w fun e w' => e = .returned (.bool true) ∧ Below w.heap.size w w' := by
  have hH : Holds (withRec w r) w.heap.size (.slice a p.length cap) p := hv.on (withRec_below w r) (Nat.le_refl _)
  clear hv
  have HE : Hid ((Bp.chk p).1 = 0 → _) := fun h => Bp.run_ends (p := p) h r
  have HN : Hid ((Bp.chk p).1 ≠ 0 → Bp.run p r = (0, 0)) := fun h => by unfold Bp.run; rw [if_pos h]
  unfold recV
  go_enter Try.func7, Try.ntmps7
  go_wp2_with fail
  refine (alive_any (withRec w r)).mono ?_
  rintro e w1 ⟨rfl, hb1⟩
  replace hH := hH.on hb1 (by rw [withRec_size]; omega)
  rw [withRec_size] at hb1
  have c0 := rec_cell hb1 0 (by omega)
  have c1 := rec_cell hb1 1 (by omega)
  have c2 := rec_cell hb1 2 (by omega)
  have c3 := rec_cell hb1 3 (by omega)
  have c4 := rec_cell hb1 4 (by omega)
  have c5 := rec_cell hb1 5 (by omega)
  have hB := rec_below hb1
  have hz := hB.size
  clear hb1
  go_wp2_with fail
  refine (run_any p r _ w1 (hH.up hz)).mono ?_
  rintro e w2 ⟨rfl, hb2⟩
  replace hH := hH.on hb2 hz
  replace hB := hB.trans (hb2.mono hz)
  have hz2 := hB.size
  clear hb2 c0 c1 c2 c3 c4 c5 hz
  go_wp2_with fail
  refine (check_any p _ w2 (hH.up hz2)).mono ?_
  rintro e w3 ⟨rfl, hb3⟩
  replace hB := hB.trans (hb3.mono hz2)
  clear hb3 hH hz2
  generalize hrun : Bp.run p r = rr at *
  generalize hchk : Bp.chk p = ck at *
  clear hrun hchk
  obtain ⟨rn, rs⟩ := rr
  obtain ⟨ce, ca⟩ := ck
  have hfe := fun (w : World) => field_err ce ca w
  unfold faultV
  by_cases h0 : ce = 0
  · subst h0
    have hE := HE.out rfl
    dsimp only at hE
    obtain ⟨h1, h2, h3⟩ := hE
    clear HE HN
    rcases h1 with rfl | rfl
    · go_wp2
      go_ret
      exact ⟨by simp, hB⟩
    · go_wp2
      go_ret
      exact ⟨by simp, hB⟩
  · have h0' : (ce != 0) = true := by simp [h0]
    have hN := HN.out h0
    simp only [Prod.mk.injEq] at hN
    obtain ⟨rfl, rfl⟩ := hN
    clear HE HN h0
    go_wp2
    go_ret
    exact ⟨by simp, hB⟩
theorem ends_any (p : List Bp.Ins) (r : Nat → Int) (v : Value) (w : World) (hv : Holds w w.heap.size v p) :
    Calls Try.prog 7 #[v, recV r] w fun e w' => e = .returned (.bool true) ∧ Below w.heap.size w w' := by
  obtain ⟨a, cap, rfl⟩ := hv.form
  exact ends_some p r a cap w hv
end Go.Proofs.Ytkobjcbcmbecfaa
