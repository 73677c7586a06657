/-
  rglaw3.alive: a closed fact.
-/
import Derived.Test.YtkikghdcnejjfabGWalkF
import Derived.Test.YtkikghdcnejjfabRefS
import Derived.Test.YtkikghdcnejjfabRefAl
namespace Go.Proofs.Ytkikghdcnejjfab
open Go.RowKit
theorem cell_below {w : World} {a : Addr} {v : Value} (h : w.cell? a = some v) : a.block < w.heap.size := by
  rcases Nat.lt_or_ge a.block w.heap.size with h' | h'
  · exact h'
  · simp [World.cell?, Array.getElem?_eq_none h'] at h
theorem own_capOk {w : World} {base : Nat} {e : TypeId} {size : Nat} {v : Value} {n : Nat} {xs : List Value} (h : w.ownsRow base e size v n xs) : CapOk v := by
  intro a k c hv
  rcases h.2 with ⟨rfl, h0⟩ | ⟨g, cap, cur, rfl, _, _, h1, h2, _⟩
  · simp at hv; omega
  · simp at hv
    obtain ⟨-, rfl, rfl⟩ := hv
    exact ⟨h1, h2⟩
def aliveL : List Gp.Pol := [⟨9, []⟩, ⟨4, [(1, 2)]⟩]
def alr (a b : Int) : Nat → Int
  | 0 => a
  | 1 => b
  | _ => 0
theorem aliveL_zero : (Gp.wrongP aliveL).1 = 0 := by decide
theorem aliveL_fine : Gp.Fine aliveL := (Gp.fine_iff _).1 aliveL_zero
theorem alive_yes : Gp.allows (alr 4 1) aliveL = true := by decide +kernel
theorem alive_no : Gp.allows (alr 4 2) aliveL = false := by decide +kernel
theorem alive_nine : Gp.allows (alr 9 0) aliveL = true := by decide +kernel
theorem alive_len : (Gp.comp aliveL).length = 9 := by decide +kernel
def aliveW (w : World) : World := (w.alloc (.cells #[.int .i64 1, .int .i64 2] 53)).alloc (.cells #[.int .i64 9, .slice none 0 0, .int .i64 4, .slice (some ⟨w.heap.size, 0, none⟩) 1 1] 41)
theorem aliveW_size (w : World) : (aliveW w).heap.size = w.heap.size + 2 := by simp [aliveW]
theorem aliveW_holds (w : World) : PHolds (aliveW w) (aliveW w).heap.size (.slice (some ⟨w.heap.size + 1, 0, none⟩) 2 2) aliveL := by
  rw [aliveW_size]
  refine Or.inr ⟨w.heap.size + 1, 0, 2, rfl, by omega, by decide, by decide, ?_⟩
  intro i P hP
  match i, hP with
  | 0, hP =>
    simp [aliveL] at hP
    subst hP
    exact ⟨by simp [aliveW], .slice none 0 0, by simp [aliveW], Or.inl ⟨none, 0, rfl, rfl⟩⟩
  | 1, hP =>
    simp [aliveL] at hP
    subst hP
    refine ⟨by simp [aliveW], .slice (some ⟨w.heap.size, 0, none⟩) 1 1, by simp [aliveW], Or.inr ⟨w.heap.size, 0, 1, rfl, by omega, by decide, ?_⟩⟩
    intro j m hm
    match j, hm with
    | 0, hm =>
      simp at hm
      subst hm
      simp [aliveW]
    | j + 1, hm => simp at hm
  | i + 2, hP => simp [aliveL] at hP
set_option maxHeartbeats 1000000 in
theorem alive3_any (w : World) : Calls Try.prog 14 #[] w fun e w' => e = .returned (.bool true) ∧ Below w.heap.size w w' := by
  have HV : Hid (PHolds (aliveW w) (aliveW w).heap.size (.slice (some ⟨w.heap.size + 1, 0, none⟩) 2 2) aliveL) := aliveW_holds w
  have hBW : Below w.heap.size w (aliveW w) := ((Below.refl _ _).alloc (Nat.le_refl _) _).alloc (by simp) _
  have hfe := fun (w : World) => field_err 0 0 w
  go_enter Try.func14, Try.ntmps14
  go_wp2_with fail
  refine (compile_fine aliveL aliveL_fine _ (aliveW w) HV.out).mono ?_
  rintro e w1 ⟨x, rfl, hox, hb1⟩
  have hV1 := (HV.out.on hb1 (Nat.le_refl _)).up hb1.size
  have hB1 := hBW.trans (hb1.mono hBW.size)
  have hz1 := hB1.size
  rw [alive_len] at hox
  obtain ⟨gx, capx, rfl⟩ := own_form hox (by decide)
  rw [← alive_len] at hox
  have hox2 := hox.alloc (.cells #[.int .i64 0, .int .i64 0] 27)
  have HX : Hid (Holds (w1.alloc (.cells #[.int .i64 0, .int .i64 0] 27)) (w1.alloc (.cells #[.int .i64 0, .int .i64 0] 27)).heap.size (.slice (some ⟨gx, 0, none⟩) 9 capx) (Gp.comp aliveL)) := holds_own hox2
  have HCO : Hid (CapOk (.slice (some ⟨gx, 0, none⟩) 9 capx)) := own_capOk hox2
  have hbA : Below w1.heap.size w1 (w1.alloc (.cells #[.int .i64 0, .int .i64 0] 27)) := (Below.refl _ _).alloc (Nat.le_refl _) _
  have HV1 : Hid (PHolds _ _ _ aliveL) := (hV1.on hbA (Nat.le_refl _)).up hbA.size
  have hB2 := hB1.trans (hbA.mono hz1)
  have hcF : (w1.alloc (.cells #[.int .i64 0, .int .i64 0] 27)).cell? ⟨w1.heap.size, 0, none⟩ = some (.int .i64 0) := by simp
  have hzF : w1.heap.size < (w1.alloc (.cells #[.int .i64 0, .int .i64 0] 27)).heap.size := by simp
  clear HV hb1 hox hox2 hV1
  go_wp2_with fail
  generalize (w1.alloc (.cells #[.int .i64 0, .int .i64 0] 27)) = W at *
  refine (rrun_any (Gp.comp aliveL) (alr 4 1) _ W HX.out HCO.out).mono ?_
  rintro e w2 ⟨rfl, hb2⟩
  have HX2 : Hid (Holds w2 w2.heap.size _ (Gp.comp aliveL)) := (HX.out.on hb2 (Nat.le_refl _)).up hb2.size
  have HV2 : Hid (PHolds w2 w2.heap.size _ aliveL) := (HV1.out.on hb2 (Nat.le_refl _)).up hb2.size
  have hcF2 := (hb2.cell (p := ⟨w1.heap.size, 0, none⟩) hzF).trans hcF
  have hzF2 := Nat.lt_of_lt_of_le hzF hb2.size
  have hB3 := hB2.trans (hb2.mono hB2.size)
  rw [Gp.run_comp _ aliveL_fine, alive_yes]
  clear HX HV1 hcF hzF hb2 hB2
  go_wp2_with fail
  refine (rrun_any (Gp.comp aliveL) (alr 4 2) _ w2 HX2.out HCO.out).mono ?_
  rintro e w3 ⟨rfl, hb3⟩
  have HV3 : Hid (PHolds w3 w3.heap.size _ aliveL) := (HV2.out.on hb3 (Nat.le_refl _)).up hb3.size
  have hcF3 := (hb3.cell (p := ⟨w1.heap.size, 0, none⟩) hzF2).trans hcF2
  have hB4 := hB3.trans (hb3.mono hB3.size)
  rw [Gp.run_comp _ aliveL_fine, alive_no]
  clear HX2 HV2 hcF2 hzF2 hb3 hB3
  have hz3 : w1.heap.size < w3.heap.size := cell_below hcF3
  go_wp2_with fail
  refine (gWrong_any aliveL _ w3 HV3.out).mono ?_
  rintro e w4 ⟨rfl, hb4⟩
  have HV4 : Hid (PHolds w4 w4.heap.size _ aliveL) := (HV3.out.on hb4 (Nat.le_refl _)).up hb4.size
  have hB5 := hB4.trans (hb4.mono hB4.size)
  rw [Gp.wrongP_fine aliveL_fine]
  unfold faultV
  clear HV3 hb4 hB4
  go_wp2_with fail
  refine (gAllows_any aliveL (alr 9 0) _ w4 HV4.out).mono ?_
  rintro e w5 ⟨rfl, hb5⟩
  rw [alive_nine, decide_eq_true aliveL_zero]
  have hB6 := hB5.trans (hb5.mono hB5.size)
  clear HV4 hb5 hB5
  go_wp2
  go_ret
  exact ⟨rfl, hB6⟩
end Go.Proofs.Ytkikghdcnejjfab
