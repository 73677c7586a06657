/-
  What gate.Allows answers.
-/
import Derived.Test.YtkikghdcnejjfabGWalkC
import Derived.Test.YtkikghdcnejjfabGFine
import Derived.Laws.EntriesVeiled
namespace Go.Proofs.Ytkikghdcnejjfab
open Go.RowKit
theorem Below.drewMany {B : Nat} {a w : World} (h : Below B a w) (q : Nat) : Below B a (w.drewN q) := ⟨h.os, h.tape, h.output, h.size, h.block⟩
theorem rec_at {w wr : World} {g : Nat} {r : Nat → Int} (hr : ∀ k, k < 6 → w.cell? ⟨g, k, none⟩ = some (.int .i64 (r k))) (hg : g < w.heap.size) (hB : Below w.heap.size w wr) : ∀ k, k < 6 → wr.cell? ⟨g, k, none⟩ = some (.int .i64 (r k)) := fun k hk => (hB.cell (p := ⟨g, k, none⟩) hg).trans (hr k hk)
theorem hits_any (m : Int × Int) (r : Nat → Int) (h0 : 0 ≤ m.1) (h6 : m.1 < 6) (g : Nat) (w : World) (hg : g < w.heap.size) (hr : ∀ k, k < 6 → w.cell? ⟨g, k, none⟩ = some (.int .i64 (r k))) :
    Calls Try.prog 25 #[maskV m, .pointer (some ⟨g, 0, none⟩)] w fun e w' => e = .returned (.bool (Gp.hit r m)) ∧ Below w.heap.size w w' := by
  obtain ⟨a, b⟩ := m
  dsimp only at *
  obtain ⟨n, rfl⟩ := Int.eq_ofNat_of_zero_le h0
  unfold maskV Gp.hit
  dsimp only
  have hc := fun x => rec_at hr hg ((Below.refl w.heap.size w).alloc (Nat.le_refl _) x) n (by omega)
  simp only [Int.toNat_natCast] at *
  clear hr
  go_enter Try.func25, Try.ntmps25
  go_wp2
  go_quiet (fail)
  go_wp2
  go_ret
  exact ⟨rfl, Below.drewMany ((Below.refl _ _).alloc (Nat.le_refl _) _) _⟩
set_option maxHeartbeats 1000000 in
theorem pass_any (P : Gp.Pol) (mv : Value) (r : Nat → Int) (hw : ∀ m ∈ P.masks, 0 ≤ m.1 ∧ m.1 < 6) (g gh : Nat) (w : World) (hM : MHolds w w.heap.size mv P.masks) (hg : g < w.heap.size) (hgh : gh < w.heap.size)
    (hr : ∀ k, k < 6 → w.cell? ⟨g, k, none⟩ = some (.int .i64 (r k))) (hh : w.cell? ⟨gh, 0, none⟩ = some (.func (.func 25) #[] #[.pointer (some ⟨g, 0, none⟩)])) :
    Calls Try.prog 27 #[polV P.call mv, .pointer (some ⟨g, 0, none⟩), .pointer (some ⟨gh, 0, none⟩)] w fun e w' => e = .returned (.bool (Gp.pass r P)) ∧ Below w.heap.size w w' := by
  obtain ⟨c, ms⟩ := P
  unfold Gp.pass
  dsimp only at *
  have hB0 := withPol_below w c mv
  have hM0 := (hM.on hB0 (Nat.le_refl _)).up (B' := (withPol w c mv).heap.size) (by rw [withPol_size]; omega)
  have hr0 := rec_at hr hg hB0
  have r0 := hr0 0 (by omega)
  have hh0 := (hB0.cell (p := ⟨gh, 0, none⟩) hgh).trans hh
  have HM : Hid (MHolds (withPol w c mv) (withPol w c mv).heap.size mv ms) := hM0
  have HP : Hid (MPred 25 #[.pointer (some ⟨g, 0, none⟩)] (withPol w c mv) ms (Gp.hit r)) := by
    intro W m hm hb
    have hz : g < (withPol w c mv).heap.size := by rw [withPol_size]; omega
    exact hits_any m r (hw m hm).1 (hw m hm).2 g W (Nat.lt_of_lt_of_le hz hb.size) (rec_at hr0 hz hb)
  clear hM hM0 hr hh hr0 hw
  unfold polV
  unfold withPol at r0 hh0
  by_cases hc : c = r 0
  · subst hc
    rw [show decide (r 0 = r 0) = true by simp, Bool.true_and]
    go_enter Try.func27, Try.ntmps27
    go_wp2_with fail
    refine (hasM_any 25 _ ms (Gp.hit r) mv (withPol w (r 0) mv) HM.out HP.out (enters_of Try.func25 (by kernel_rfl) rfl)).mono ?_
    rintro e w2 ⟨rfl, hb2⟩
    rw [withPol_size] at hb2
    go_wp2
    go_ret
    exact ⟨rfl, hB0.trans (hb2.mono (by omega))⟩
  · have hc' : (c == r 0) = false := by simpa using hc
    rw [show decide (c = r 0) = false by simpa using hc, Bool.false_and]
    clear HM HP hc
    go_enter Try.func27, Try.ntmps27
    go_wp2
    go_ret
    exact ⟨rfl, hB0⟩
def withHits (w : World) (g : Nat) : World := w.alloc (.cells #[.func (.func 25) #[] #[.pointer (some ⟨g, 0, none⟩)]] 54)
set_option maxHeartbeats 1000000 in
/-- gate.Allows lets pass what the document says. -/
theorem gAllows_any (l : List Gp.Pol) (r : Nat → Int) (v : Value) (w : World) (hv : PHolds w w.heap.size v l) :
    Calls Try.prog 12 #[v, recV r] w fun e w' => e = .returned (.bool (decide ((Gp.wrongP l).1 = 0) && Gp.allows r l)) ∧ Below w.heap.size w w' := by
  have hV0 : PHolds (withRec w r) (withRec w r).heap.size v l := (hv.on (withRec_below w r) (Nat.le_refl _)).up (by rw [withRec_size]; omega)
  have HV : Hid (PHolds (withRec w r) (withRec w r).heap.size v l) := hV0
  have HC := fun (w : World) => field_err (Gp.wrongP l).1 (Gp.wrongP l).2 w
  have hmk := runMakeFunc
  clear hv hV0
  unfold recV
  by_cases h0 : (Gp.wrongP l).1 = 0
  · have hf := (Gp.fine_iff l).1 h0
    have HF : Hid (Gp.Fine l) := hf
    clear HC
    have HC := fun (w : World) => field_err 0 0 w
    rw [decide_eq_true h0, Bool.true_and, Gp.allows_pass r l hf.one]
    have HW : Hid (Gp.wrongP l = (0, 0)) := Gp.wrongP_fine hf
    clear h0 hf
    go_enter Try.func12, Try.ntmps12
    go_wp2_with fail
    refine (gWrong_any l v (withRec w r) HV.out).mono ?_
    rintro e w1 ⟨rfl, hb1⟩
    rw [HW.out]
    unfold faultV
    have hV1 := (HV.out.on hb1 (Nat.le_refl _)).up hb1.size
    rw [withRec_size] at hb1
    have hz1 := hb1.size
    rw [withRec_size] at hz1
    have hBH : Below w1.heap.size w1 (withHits w1 w.heap.size) := (Below.refl _ _).alloc (Nat.le_refl _) _
    have hZ : (withHits w1 w.heap.size).heap.size = w1.heap.size + 1 := by simp [withHits]
    have hV2 : PHolds (withHits w1 w.heap.size) (withHits w1 w.heap.size).heap.size v l := (hV1.on hBH (Nat.le_refl _)).up hBH.size
    have hbr : Below (w.heap.size + 1) (withRec w r) (withHits w1 w.heap.size) := hb1.trans (hBH.mono (by omega))
    have hcell : (withHits w1 w.heap.size).cell? ⟨w1.heap.size, 0, none⟩ = some (.func (.func 25) #[] #[.pointer (some ⟨w.heap.size, 0, none⟩)]) := by simp [withHits]
    have HP : Hid (PPred 27 #[.pointer (some ⟨w.heap.size, 0, none⟩), .pointer (some ⟨w1.heap.size, 0, none⟩)] (withHits w1 w.heap.size) l (Gp.pass r)) := by
      intro W P mv hP hM hb
      have hzW := hb.size
      refine pass_any P mv r (fun m hm => HF.out.worded P hP m hm) w.heap.size w1.heap.size W (hM.up hb.size) (by omega) (by omega) (fun k hk => rec_cell (hbr.trans (hb.mono (by omega))) k hk) ((hb.cell (p := ⟨w1.heap.size, 0, none⟩) (by rw [hZ]; simp)).trans hcell)
    have HV2 : Hid _ := hV2
    clear HV hV1 hV2 hcell
    unfold withHits at HP HV2
    go_wp2_with fail
    refine (hasP_any 27 _ l _ v _ HV2.out HP.out (enters_of Try.func27 (by kernel_rfl) rfl)).mono ?_
    rintro e w3 ⟨rfl, hb3⟩
    go_wp2
    go_ret
    exact ⟨rfl, rec_below (hbr.trans (hb3.mono (by simp; omega)))⟩
  · have hb : ((Gp.wrongP l).1 != 0) = true := by simpa using h0
    rw [decide_eq_false h0, Bool.false_and]
    clear h0
    go_enter Try.func12, Try.ntmps12
    go_wp2_with fail
    refine (gWrong_any l v (withRec w r) HV.out).mono ?_
    rintro e w1 ⟨rfl, hb1⟩
    rw [withRec_size] at hb1
    unfold faultV
    go_wp2
    go_ret
    exact ⟨rfl, rec_below hb1⟩
end Go.Proofs.Ytkikghdcnejjfab
