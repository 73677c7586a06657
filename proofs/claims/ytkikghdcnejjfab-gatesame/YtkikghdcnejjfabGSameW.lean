/-
  The law GateSame, walked.
-/
import Derived.Test.YtkikghdcnejjfabGWalkG
import Derived.Test.YtkikghdcnejjfabGRec
namespace Go.Proofs.Ytkikghdcnejjfab
open Go.RowKit
set_option maxRecDepth 100000 in
set_option maxHeartbeats 4000000 in
theorem gsame_fine (l : List Gp.Pol) (hf : Gp.Fine l) (r : Nat → Int) (v : Value) (w : World) (hv : PHolds w w.heap.size v l) :
    Calls Try.prog 5 #[v, recV r] w fun e w' => e = .returned (.bool true) ∧ Below w.heap.size w w' := by
  have HV : Hid (PHolds w w.heap.size v l) := hv
  have HF : Hid (Gp.Fine l) := hf
  have HG : Hid (Bp.chk (Gp.comp l) = (0, 0)) := Bp.chk_good (Gp.comp_good hf)
  have HL : Hid (1 ≤ (Gp.comp l).length) := by unfold Hid Gp.comp; simp
  obtain ⟨n, hn⟩ : ∃ n : Int, n = if Gp.allows r l then 1 else 0 := ⟨_, rfl⟩
  have HR : Hid ((Bp.run (Gp.comp l) r).1 = n) := (Gp.run_comp r hf).trans hn.symm
  have HN : Hid (n = if Gp.allows r l then 1 else 0) := hn
  have hfe := fun (w : World) => field_err 0 0 w
  have h0 : RB w r (withRec w r) := RB.of (Below.refl _ _)
  have H0 : Hid (RB w r (withRec w r)) := h0
  clear hv hf h0 hn
  unfold recV
  go_enter Try.func5, Try.ntmps5
  go_wp2_with fail
  refine (alive3_any (withRec w r)).mono ?_
  rintro e w1 ⟨rfl, hb1⟩
  have hR1 : RB w r w1 := H0.out.trans hb1
  have HR1 : Hid (RB w r w1) := hR1
  clear hb1 hR1 H0
  go_wp2_with fail
  refine (compile_fine l HF.out v w1 (HR1.out.holds HV.out)).mono ?_
  rintro e w2 ⟨x, rfl, hox, hb2⟩
  have hR2 : RB w r w2 := HR1.out.trans hb2
  obtain ⟨gx, capx, rfl⟩ := own_form hox HL.out
  clear hb2 HR1
  have hox2 := hox.alloc (.cells #[.int .i64 0, .int .i64 0] 27)
  have HX2 : Hid (Holds (w2.alloc (.cells #[.int .i64 0, .int .i64 0] 27)) (w2.alloc (.cells #[.int .i64 0, .int .i64 0] 27)).heap.size (.slice (some ⟨gx, 0, none⟩) (Gp.comp l).length capx) (Gp.comp l)) := holds_own hox2
  have HCO : Hid (CapOk (.slice (some ⟨gx, 0, none⟩) (Gp.comp l).length capx)) := own_capOk hox2
  have hbA : Below w2.heap.size w2 (w2.alloc (.cells #[.int .i64 0, .int .i64 0] 27)) := (Below.refl _ _).alloc (Nat.le_refl _) _
  have HR3 : Hid (RB w r (w2.alloc (.cells #[.int .i64 0, .int .i64 0] 27))) := hR2.trans hbA
  have cF : (w2.alloc (.cells #[.int .i64 0, .int .i64 0] 27)).cell? ⟨w2.heap.size, 0, none⟩ = some (.int .i64 0) := by simp
  clear hox hox2 hR2 hbA
  go_wp2_with fail
  generalize (w2.alloc (.cells #[.int .i64 0, .int .i64 0] 27)) = W3 at *
  refine (gWrong_any l v W3 (HR3.out.holds HV.out)).mono ?_
  rintro e w4 ⟨rfl, hb4⟩
  rw [Gp.wrongP_fine HF.out]
  unfold faultV
  have HX4 : Hid (Holds w4 w4.heap.size (.slice (some ⟨gx, 0, none⟩) (Gp.comp l).length capx) (Gp.comp l)) := (HX2.out.on hb4 (Nat.le_refl _)).up hb4.size
  have HR4 : Hid (RB w r w4) := HR3.out.trans hb4
  have cF4 := (hb4.cell (p := ⟨w2.heap.size, 0, none⟩) (cell_below cF)).trans cF
  have hz4 := cell_below cF4
  have hbA : Below w4.heap.size w4 (w4.alloc (.cells #[.int .i64 0, .int .i64 0] 27)) := (Below.refl _ _).alloc (Nat.le_refl _) _
  have HR5 : Hid (RB w r (w4.alloc (.cells #[.int .i64 0, .int .i64 0] 27))) := HR4.out.trans hbA
  have HX5 : Hid (Holds (w4.alloc (.cells #[.int .i64 0, .int .i64 0] 27)) (w4.alloc (.cells #[.int .i64 0, .int .i64 0] 27)).heap.size (.slice (some ⟨gx, 0, none⟩) (Gp.comp l).length capx) (Gp.comp l)) := (HX4.out.on hbA (Nat.le_refl _)).up hbA.size
  clear hb4 HX2 HR3 cF HX4 HR4 hbA
  go_wp2_with fail
  refine (rcheck_any (Gp.comp l) _ _ HX5.out).mono ?_
  rintro e w6 ⟨rfl, hb6⟩
  rw [HG.out]
  unfold faultV
  have HX6 : Hid (Holds w6 w6.heap.size (.slice (some ⟨gx, 0, none⟩) (Gp.comp l).length capx) (Gp.comp l)) := (HX5.out.on hb6 (Nat.le_refl _)).up hb6.size
  have HR6 := HR5.out.trans hb6
  obtain ⟨b6, c0, c1, c2, c3, c4, c5⟩ := HR6
  clear hb6 HX5 HR5 cF4 hz4
  go_wp2_with fail
  refine (rrun_any (Gp.comp l) r _ w6 HX6.out HCO.out).mono ?_
  rintro e w7 ⟨rfl, hb7⟩
  rw [HR.out]
  have HR7 := (RB.of b6).trans hb7
  obtain ⟨b7, c70, c71, c72, c73, c74, c75⟩ := HR7
  clear hb7 HX6 b6 c0 c1 c2 c3 c4 c5
  go_wp2_with fail
  refine (rallows_any l r HF.out.worded v w7 ((RB.of b7).holds HV.out)).mono ?_
  rintro e w8 ⟨rfl, hb8⟩
  have b8 := ((RB.of b7).trans hb8).bel
  clear hb8 b7 c70 c71 c72 c73 c74 c75
  cases hy : Gp.allows r l
  · obtain rfl : n = 0 := by rw [HN.out, hy]; rfl
    go_wp2
    go_ret
    exact ⟨rfl, rec_below b8⟩
  · obtain rfl : n = 1 := by rw [HN.out, hy]; rfl
    go_wp2
    go_ret
    exact ⟨rfl, rec_below b8⟩
set_option maxRecDepth 100000 in
set_option maxHeartbeats 4000000 in
theorem gsame_bad (l : List Gp.Pol) (hf : (Gp.wrongP l).1 ≠ 0) (r : Nat → Int) (v : Value) (w : World) (hv : PHolds w w.heap.size v l) :
    Calls Try.prog 5 #[v, recV r] w fun e w' => e = .returned (.bool true) ∧ Below w.heap.size w w' := by
  have HV : Hid (PHolds w w.heap.size v l) := hv
  have HC : Hid (∀ W, PHolds W W.heap.size v l → Calls Try.prog 15 #[v] W fun e w' => e = .returned (.tuple #[.slice none 0 0, faultV (Gp.wrongP l)]) ∧ Below W.heap.size W w') := fun W h => compile_bad l hf v W h
  have HW : Hid (∀ W, PHolds W W.heap.size v l → Calls Try.prog 10 #[v] W fun e w' => e = .returned (faultV (Gp.wrongP l)) ∧ Below W.heap.size W w') := fun W h => gWrong_any l v W h
  generalize Gp.wrongP l = f at *
  obtain ⟨fe, fa⟩ := f
  unfold faultV at HC HW
  dsimp only at *
  have hne : (fe != 0) = true := by simpa using hf
  have hq := fun (w : World) => eqFault fe fa w
  have hg := guardFault
  have h0 : RB w r (withRec w r) := RB.of (Below.refl _ _)
  have H0 : Hid (RB w r (withRec w r)) := h0
  clear hv hf h0
  unfold recV
  go_enter Try.func5, Try.ntmps5
  go_wp2_with fail
  refine (alive3_any (withRec w r)).mono ?_
  rintro e w1 ⟨rfl, hb1⟩
  have hR1 : RB w r w1 := H0.out.trans hb1
  have HR1 : Hid (RB w r w1) := hR1
  clear hb1 hR1 H0
  go_wp2_with fail
  refine (HC.out w1 (HR1.out.holds HV.out)).mono ?_
  rintro e w2 ⟨rfl, hb2⟩
  have hR2 : RB w r w2 := HR1.out.trans hb2
  clear hb2 HR1
  have hbA : Below w2.heap.size w2 (w2.alloc (.cells #[.int .i64 fe, .int .i64 fa] 27)) := (Below.refl _ _).alloc (Nat.le_refl _) _
  have HR3 : Hid (RB w r (w2.alloc (.cells #[.int .i64 fe, .int .i64 fa] 27))) := hR2.trans hbA
  have cF : (w2.alloc (.cells #[.int .i64 fe, .int .i64 fa] 27)).cell? ⟨w2.heap.size, 0, none⟩ = some (.int .i64 fe) := by simp
  have cG : (w2.alloc (.cells #[.int .i64 fe, .int .i64 fa] 27)).cell? ⟨w2.heap.size, 1, none⟩ = some (.int .i64 fa) := by simp
  clear hR2 hbA
  go_wp2_with fail
  generalize (w2.alloc (.cells #[.int .i64 fe, .int .i64 fa] 27)) = W3 at *
  refine (HW.out W3 (HR3.out.holds HV.out)).mono ?_
  rintro e w4 ⟨rfl, hb4⟩
  have HR4 : Hid (RB w r w4) := HR3.out.trans hb4
  have cF4 := (hb4.cell (p := ⟨w2.heap.size, 0, none⟩) (cell_below cF)).trans cF
  have cG4 := (hb4.cell (p := ⟨w2.heap.size, 1, none⟩) (cell_below cG)).trans cG
  have hz4 := cell_below cF4
  have hbA : Below w4.heap.size w4 (w4.alloc (.cells #[.int .i64 fe, .int .i64 fa] 27)) := (Below.refl _ _).alloc (Nat.le_refl _) _
  have b5 := (HR4.out.trans hbA).bel
  clear hb4 HR3 cF cG HR4 hbA
  go_wp2
  go_ret
  exact ⟨rfl, rec_below b5⟩
theorem gsame_any (l : List Gp.Pol) (r : Nat → Int) (v : Value) (w : World) (hv : PHolds w w.heap.size v l) :
    Calls Try.prog 5 #[v, recV r] w fun e w' => e = .returned (.bool true) ∧ Below w.heap.size w w' := by
  by_cases h : (Gp.wrongP l).1 = 0
  · exact gsame_fine l ((Gp.fine_iff l).1 h) r v w hv
  · exact gsame_bad l h r v w hv
end Go.Proofs.Ytkikghdcnejjfab
