/-
  The law GateTells, walked.
-/
import Derived.Test.YtkikghdcnejjfabGWalkG
import Derived.Test.YtkikghdcnejjfabRefWr
import Derived.Test.YtkikghdcnejjfabGRec
namespace Go.Proofs.Ytkikghdcnejjfab
open Go.RowKit
set_option maxRecDepth 100000 in
set_option maxHeartbeats 4000000 in
theorem gtells_fine (l : List Gp.Pol) (hf : Gp.Fine l) (r : Nat → Int) (v : Value) (w : World) (hv : PHolds w w.heap.size v l) :
    Calls Try.prog 4 #[v, recV r] w fun e w' => e = .returned (.bool true) ∧ Below w.heap.size w w' := by
  have H10 : Hid (Says w r 10 #[v] (.agg #[.int .i64 0, .int .i64 0])) := fun W hW => (gWrong_any l v W (hW.holds hv)).mono fun e w' ⟨h1, h2⟩ => ⟨by rw [h1, Gp.wrongP_fine hf]; rfl, hW.trans h2⟩
  have H11 : Hid (Says w r 11 #[v] (.agg #[.int .i64 0, .int .i64 0])) := fun W hW => (rwrong_any l v W (hW.holds hv)).mono fun e w' ⟨h1, h2⟩ => ⟨by rw [h1, Gp.wrongP_fine hf]; rfl, hW.trans h2⟩
  have H12 : Hid (Says w r 12 #[v, recV r] (.bool (Gp.allows r l))) := fun W hW => (gAllows_any l r v W (hW.holds hv)).mono fun e w' ⟨h1, h2⟩ => ⟨by rw [h1, Gp.wrongP_fine hf]; rfl, hW.trans h2⟩
  have H13 : Hid (Says w r 13 #[v, recV r] (.bool (Gp.allows r l))) := fun W hW => (rallows_any l r hf.worded v W (hW.holds hv)).mono fun e w' ⟨h1, h2⟩ => ⟨h1, hW.trans h2⟩
  generalize Gp.allows r l = b at *
  have hfe := fun (w : World) => field_err 0 0 w
  have hq := fun (w : World) => eqFault 0 0 w
  have hg := guardFault
  have h0 : RB w r (withRec w r) := RB.of (Below.refl _ _)
  unfold recV at *
  unfold withRec at h0
  clear hf hv
  go_enter Try.func4, Try.ntmps4
  go_wp2
  go_region_with (first | (go_at_call 10; refine (H10.out _ (by first | exact h0 | exact h0.drew)).mono ?_; rintro e w1 ⟨rfl, ⟨b1, c10, c11, c12, c13, c14, c15⟩⟩) | (go_at_call 11; refine (H11.out _ (RB.of (by first | assumption | exact Below.drew (by assumption)))).mono ?_; rintro e w2 ⟨rfl, ⟨b2, c20, c21, c22, c23, c24, c25⟩⟩) | (go_at_call 12; refine (H12.out _ (RB.of (by first | assumption | exact Below.drew (by assumption)))).mono ?_; rintro e w3 ⟨rfl, ⟨b3, c30, c31, c32, c33, c34, c35⟩⟩) | (go_at_call 13; refine (H13.out _ (RB.of (by first | assumption | exact Below.drew (by assumption)))).mono ?_; rintro e w4 ⟨rfl, ⟨b4, c40, c41, c42, c43, c44, c45⟩⟩))
  all_goals (try go_wp2)
  all_goals go_ret
  all_goals (have b9 : Below (w.heap.size + 1) (withRec w r) _ := b4)
  all_goals exact ⟨by first | rfl | (rw [beq_self_eq_true]; rfl) | (cases b <;> rfl), by first | exact rec_below b9 | exact rec_below b9.drew⟩
set_option maxRecDepth 100000 in
set_option maxHeartbeats 4000000 in
theorem gtells_badF (r : Nat → Int) (v : Value) (fe : Int) (fa : Nat) (hf : fe ≠ 0) (w : World) (H10 : Hid (Says w r 10 #[v] (.agg #[.int .i64 fe, .int .i64 fa]))) (H11 : Hid (Says w r 11 #[v] (.agg #[.int .i64 fe, .int .i64 fa]))) :
    Calls Try.prog 4 #[v, recV r] w fun e w' => e = .returned (.bool true) ∧ Below w.heap.size w w' := by
  have hne : (fe != 0) = true := by simpa using hf
  have hfe := fun (w : World) => field_err fe fa w
  have hq := fun (w : World) => eqFault fe fa w
  have hg := guardFault
  have h0 : RB w r (withRec w r) := RB.of (Below.refl _ _)
  unfold recV at *
  unfold withRec at h0
  clear hf
  go_enter Try.func4, Try.ntmps4
  go_wp2
  first | go_region_with (first | (go_at_call 10; refine (H10.out _ (by first | exact h0 | exact h0.drew)).mono ?_; rintro e w1 ⟨rfl, ⟨b1, c10, c11, c12, c13, c14, c15⟩⟩) | (go_at_call 11; refine (H11.out _ (RB.of (by first | assumption | exact Below.drew (by assumption)))).mono ?_; rintro e w2 ⟨rfl, ⟨b2, c20, c21, c22, c23, c24, c25⟩⟩)) | fail
  all_goals (try go_wp2)
  all_goals go_ret
  all_goals (have b9 : Below (w.heap.size + 1) (withRec w r) _ := b2)
  all_goals exact ⟨rfl, by first | exact rec_below b9 | exact rec_below b9.drew⟩
theorem gtells_bad (l : List Gp.Pol) (hf : (Gp.wrongP l).1 ≠ 0) (r : Nat → Int) (v : Value) (w : World) (hv : PHolds w w.heap.size v l) :
    Calls Try.prog 4 #[v, recV r] w fun e w' => e = .returned (.bool true) ∧ Below w.heap.size w w' := by
  have H10' : Says w r 10 #[v] (faultV (Gp.wrongP l)) := fun W hW => (gWrong_any l v W (hW.holds hv)).mono fun e w' ⟨h1, h2⟩ => ⟨h1, hW.trans h2⟩
  have H11' : Says w r 11 #[v] (faultV (Gp.wrongP l)) := fun W hW => (rwrong_any l v W (hW.holds hv)).mono fun e w' ⟨h1, h2⟩ => ⟨h1, hW.trans h2⟩
  generalize Gp.wrongP l = f at *
  obtain ⟨fe, fa⟩ := f
  exact gtells_badF r v fe fa hf w H10' H11'
theorem gtells_any (l : List Gp.Pol) (r : Nat → Int) (v : Value) (w : World) (hv : PHolds w w.heap.size v l) :
    Calls Try.prog 4 #[v, recV r] w fun e w' => e = .returned (.bool true) ∧ Below w.heap.size w w' := by
  by_cases h : (Gp.wrongP l).1 = 0
  · exact gtells_fine l ((Gp.fine_iff l).1 h) r v w hv
  · exact gtells_bad l h r v w hv
end Go.Proofs.Ytkikghdcnejjfab
