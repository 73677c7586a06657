/-
  The law BpfTells, walked.
-/
import Derived.Test.YtkobjcbcmbecfaaRefP
import Derived.Test.YtkobjcbcmbecfaaRefS
import Derived.Test.YtkobjcbcmbecfaaTurnsW
namespace Go.Proofs.Ytkobjcbcmbecfaa
open Go.RowKit
theorem partF_0 (a b : Int) (w : World) : (part 23 #[.int .i64 a, .int .i64 b] 0).run Try.prog w = .ok (.int .i64 a) w := by kernel_rfl
theorem partF_1 (a b : Int) (w : World) : (part 3 #[.int .i64 a, .int .i64 b] 1).run Try.prog w = .ok (.int .i64 b) w := by kernel_rfl
theorem fieldsFault : Try.prog.underlying 47 = some (.struct (Try.prog.fieldsOf 47)) := by unfold Program.fieldsOf; rw [Try.underlying47]
theorem eqFault' (n : Nat) (a b : Int) (w : World) : (Op.equalIn (n + 2) 47 (.agg #[.int .i64 a, .int .i64 b]) (.agg #[.int .i64 a, .int .i64 b])).run Try.prog w = .ok true w := by
  rw [run_equalIn_struct w (n + 1) 47 _ _ fieldsFault (by kernel_rfl)]
  unfold Program.fieldsOf
  rw [Try.underlying47]
  have q := fun (x y : Int) (w : World) => run_equalIn_int (P := Try.prog) w n 3 .i64 .i64 x y Try.underlying3
  have q' := fun (x y : Int) (w : World) => run_equalIn_int (P := Try.prog) w n 23 .i64 .i64 x y Try.underlying23
  simp [Op.eqFields, partF_0, partF_1, q, q']
theorem eqFault (a b : Int) (w : World) : (Op.equalIn 10000 47 (.agg #[.int .i64 a, .int .i64 b]) (.agg #[.int .i64 a, .int .i64 b])).run Try.prog w = .ok true w := eqFault' 9998 a b w
theorem guardFault : Try.prog.eqGuardType Try.prog.depth 47 = false := by kernel_rfl
/-- A block of two cells. -/
def Small (w : World) (g : Nat) : Prop := ∀ j, 2 ≤ j → w.cell? ⟨g, j, none⟩ = none
theorem small_alloc (w : World) (a b : Value) (t : TypeId) : Small (w.alloc (.cells #[a, b] t)) w.heap.size := by
  intro j hj
  rw [World.cell?_alloc_at _ _ _ _ rfl, Array.getElem?_eq_none (by simpa using hj)]
theorem Small.on {w w' : World} {g B : Nat} (h : Small w g) (hb : Below B w w') (hg : g < B) : Small w' g := by
  intro j hj
  rw [hb.cell (p := ⟨g, j, none⟩) hg]
  exact h j hj
theorem Small.set {w : World} {g : Nat} (h : Small w g) (b o : Nat) (ho : o < 2) (u : Value) : Small (w.setCell ⟨b, o, none⟩ u) g := by
  intro j hj
  rw [World.cell?_setCell_other _ _ _ _ (by intro e; cases e; omega)]
  exact h j hj
/-- A program does not lie in a block of two cells. -/
theorem Holds.small {w : World} {B : Nat} {v : Value} {p : List Bp.Ins} (h : Holds w B v p) {g : Nat} (hs : Small w g) (o : Nat) (u : Value) : Holds (w.setCell ⟨g, o, none⟩ u) B v p := by
  rcases h with h | ⟨b, off, cap, rfl, hlt, hlen, hl⟩
  · exact Or.inl h
  · refine Or.inr ⟨b, off, cap, rfl, hlt, hlen, ?_⟩
    by_cases e : b = g
    · subst e
      intro i x hx
      have := (hl i x hx).2.2.2
      rw [hs (off + i * 4 + 3) (by omega)] at this
      cases this
    · exact hl.far ⟨g, o, none⟩ u (fun e' => e e'.symm)
set_option maxRecDepth 100000 in
set_option maxHeartbeats 4000000 in
theorem tells_any (p : List Bp.Ins) (r : Nat → Int) (l : List Nat) (v vb : Value) (w : World) (hv : Holds w w.heap.size v p) (hc : CapOk v) (hb : HoldsB w w.heap.size vb l) :
    Calls Try.prog 6 #[v, recV r, vb] w fun e w' => e = .returned (.bool true) ∧ Below w.heap.size w w' := by
  replace hv := hv.on (withRec_below w r) (Nat.le_refl _)
  replace hb := hb.on (withRec_below w r) (Nat.le_refl _)
  have heq := fun (w : World) => eqFault (Bp.chk p).1 (Bp.chk p).2 w
  have heq2 := fun (w : World) => eqFault (prs l).2.1 (prs l).2.2 w
  have hgd := guardFault
  unfold recV
  go_enter Try.func6, Try.ntmps6
  go_wp2_with fail
  refine (check_any p v (withRec w r) (hv.up (by rw [withRec_size]; omega))).mono ?_
  rintro e w1 ⟨rfl, hb1⟩
  rw [withRec_size] at hb1
  replace hv := hv.on hb1 (by omega)
  replace hb := hb.on hb1 (by omega)
  have hz : w.heap.size < w1.heap.size := by have := hb1.size; rw [withRec_size] at this; omega
  unfold faultV
  go_wp2_with fail
  refine (rcheck_any p v w1 (hv.up (by omega))).mono ?_
  rintro e w2 ⟨rfl, hb2⟩
  replace hv := hv.on hb2 (by omega)
  replace hb := hb.on hb2 (by omega)
  replace hb1 := hb1.trans (hb2.mono (by omega))
  replace hz : w.heap.size < w2.heap.size := by have := hb2.size; omega
  clear hb2
  unfold faultV
  have c0 := rec_cell hb1 0 (by omega)
  have c1 := rec_cell hb1 1 (by omega)
  have c2 := rec_cell hb1 2 (by omega)
  have c3 := rec_cell hb1 3 (by omega)
  have c4 := rec_cell hb1 4 (by omega)
  have c5 := rec_cell hb1 5 (by omega)
  go_wp2_with fail
  refine (run_any p r v w2 (hv.up (by omega))).mono ?_
  rintro e w3 ⟨rfl, hb2⟩
  replace hv := hv.on hb2 (by omega)
  replace hb := hb.on hb2 (by omega)
  replace hb1 := hb1.trans (hb2.mono (by omega))
  replace hz : w.heap.size < w3.heap.size := by have := hb2.size; omega
  clear hb2
  replace c0 := rec_cell hb1 0 (by omega)
  replace c1 := rec_cell hb1 1 (by omega)
  replace c2 := rec_cell hb1 2 (by omega)
  replace c3 := rec_cell hb1 3 (by omega)
  replace c4 := rec_cell hb1 4 (by omega)
  replace c5 := rec_cell hb1 5 (by omega)
  go_wp2_with fail
  refine (rrun_any p r v w3 (hv.up (by omega)) hc).mono ?_
  rintro e w4 ⟨rfl, hb2⟩
  replace hv := hv.on hb2 (by omega)
  replace hb := hb.on hb2 (by omega)
  replace hb1 := hb1.trans (hb2.mono (by omega))
  replace hz : w.heap.size < w4.heap.size := by have := hb2.size; omega
  clear hb2 c0 c1 c2 c3 c4 c5 hc
  go_wp2_with fail
  refine (bytes_any p v w4 (hv.up (by omega))).mono ?_
  rintro e w5 ⟨x, rfl, hb2, hx⟩
  replace hv := hv.on hb2 (by omega)
  replace hb := hb.on hb2 (by omega)
  replace hb1 := hb1.trans (hb2.mono (by omega))
  replace hz : w.heap.size < w5.heap.size := by have := hb2.size; omega
  clear hb2
  unfold faultV
  have hal := (Below.refl w5.heap.size w5).alloc (Nat.le_refl _) (.cells #[.int .i64 (Bp.chk p).1, .int .i64 (Bp.chk p).2] 47)
  replace hx := hx.on hal (Nat.le_refl _)
  replace hv := hv.on hal (by omega)
  replace hb := hb.on hal (by omega)
  replace hb1 := hb1.trans (hal.mono (by omega))
  have hs5 := small_alloc w5 (.int .i64 (Bp.chk p).1) (.int .i64 (Bp.chk p).2) 47
  clear hal
  go_wp2_with fail
  refine (rbytes_any p v _ (hv.up (by simp; omega))).mono ?_
  rintro e w6 ⟨y, rfl, hb2, hy⟩
  have d0 : w6.cell? ⟨w5.heap.size, 0, none⟩ = some (.int .i64 (Bp.chk p).1) := (hb2.cell (p := ⟨w5.heap.size, 0, none⟩) (by simp)).trans (by simp)
  have d1 : w6.cell? ⟨w5.heap.size, 1, none⟩ = some (.int .i64 (Bp.chk p).2) := (hb2.cell (p := ⟨w5.heap.size, 1, none⟩) (by simp)).trans (by simp)
  have f0 : w6.frozen? ⟨w5.heap.size, 0, none⟩ = false := (hb2.frozen (p := ⟨w5.heap.size, 0, none⟩) (by simp)).trans (by simp)
  have f1 : w6.frozen? ⟨w5.heap.size, 1, none⟩ = false := (hb2.frozen (p := ⟨w5.heap.size, 1, none⟩) (by simp)).trans (by simp)
  replace hs5 := hs5.on hb2 (by simp)
  replace hx := hx.on hb2 (by simp)
  replace hb := hb.on hb2 (by simp; omega)
  replace hb1 := hb1.trans (hb2.mono (by simp; omega))
  have hz6 : w5.heap.size < w6.heap.size := by have := hb2.size; simp at this; omega
  clear hb2 hv
  unfold faultV
  have hal := (Below.refl w6.heap.size w6).alloc (Nat.le_refl _) (.cells #[.int .i64 (Bp.chk p).1, .int .i64 (Bp.chk p).2] 47)
  replace hx := hx.on hal (by omega)
  replace hy := hy.on hal (Nat.le_refl _)
  replace hb := hb.on hal (by omega)
  replace hb1 := hb1.trans (hal.mono (by omega))
  replace hs5 := hs5.on hal hz6
  have hs6 := small_alloc w6 (.int .i64 (Bp.chk p).1) (.int .i64 (Bp.chk p).2) 47
  have hc1 := conv_any (byts p) x _ _ hx
  have hc2 := conv_any (byts p) y _ _ hy
  have HAL : Hid (Below w6.heap.size w6 (w6.alloc (.cells #[.int .i64 (Bp.chk p).1, .int .i64 (Bp.chk p).2] 47))) := hal
  clear hal hx hy
  go_wp2_with fail
  refine (parse_any l vb _ (hb.up (by simp; omega))).mono ?_
  rintro e w8 ⟨q, rfl, hb2, hq⟩
  clear hc1 hc2
  replace d0 : w8.cell? ⟨w5.heap.size, 0, none⟩ = some (.int .i64 (Bp.chk p).1) := (hb2.cell (p := ⟨w5.heap.size, 0, none⟩) (by simp; omega)).trans ((HAL.out.cell (p := ⟨w5.heap.size, 0, none⟩) hz6).trans d0)
  replace d1 : w8.cell? ⟨w5.heap.size, 1, none⟩ = some (.int .i64 (Bp.chk p).2) := (hb2.cell (p := ⟨w5.heap.size, 1, none⟩) (by simp; omega)).trans ((HAL.out.cell (p := ⟨w5.heap.size, 1, none⟩) hz6).trans d1)
  replace f0 : w8.frozen? ⟨w5.heap.size, 0, none⟩ = false := (hb2.frozen (p := ⟨w5.heap.size, 0, none⟩) (by simp; omega)).trans ((HAL.out.frozen (p := ⟨w5.heap.size, 0, none⟩) hz6).trans f0)
  replace f1 : w8.frozen? ⟨w5.heap.size, 1, none⟩ = false := (hb2.frozen (p := ⟨w5.heap.size, 1, none⟩) (by simp; omega)).trans ((HAL.out.frozen (p := ⟨w5.heap.size, 1, none⟩) hz6).trans f1)
  have e0 : w8.cell? ⟨w6.heap.size, 0, none⟩ = some (.int .i64 (Bp.chk p).1) := (hb2.cell (p := ⟨w6.heap.size, 0, none⟩) (by simp)).trans (by simp)
  have e1 : w8.cell? ⟨w6.heap.size, 1, none⟩ = some (.int .i64 (Bp.chk p).2) := (hb2.cell (p := ⟨w6.heap.size, 1, none⟩) (by simp)).trans (by simp)
  have g0 : w8.frozen? ⟨w6.heap.size, 0, none⟩ = false := (hb2.frozen (p := ⟨w6.heap.size, 0, none⟩) (by simp)).trans (by simp)
  have g1 : w8.frozen? ⟨w6.heap.size, 1, none⟩ = false := (hb2.frozen (p := ⟨w6.heap.size, 1, none⟩) (by simp)).trans (by simp)
  replace hs5 := hs5.on hb2 (by simp; omega)
  replace hs6 := hs6.on hb2 (by simp)
  replace hb := hb.on hb2 (by simp; omega)
  replace hb1 := hb1.trans (hb2.mono (by simp; omega))
  have hz8 : w6.heap.size < w8.heap.size := by have := hb2.size; simp at this; omega
  clear hb2
  unfold faultV
  have hq8 := (hq.small hs5 0 (.int .i64 (prs l).2.1)).small (hs5.set w5.heap.size 0 (by omega) (.int .i64 (prs l).2.1)) 1 (.int .i64 (prs l).2.2)
  have hb8 := (hb.setCell ⟨w5.heap.size, 0, none⟩ (.int .i64 (prs l).2.1) (by simp; omega)).setCell ⟨w5.heap.size, 1, none⟩ (.int .i64 (prs l).2.2) (by simp; omega)
  have hs8 := (hs6.set w5.heap.size 0 (by omega) (.int .i64 (prs l).2.1)).set w5.heap.size 1 (by omega) (.int .i64 (prs l).2.2)
  have hB8 := (hb1.setCell (p := ⟨w5.heap.size, 0, none⟩) (by simp; omega) (.int .i64 (prs l).2.1)).setCell (p := ⟨w5.heap.size, 1, none⟩) (by simp; omega) (.int .i64 (prs l).2.2)
  have hne : ∀ i j : Nat, (⟨w5.heap.size, i, none⟩ : Addr) ≠ ⟨w6.heap.size, j, none⟩ := by intro i j e; have := congrArg Addr.block e; dsimp only at this; omega
  have k0 : ((w8.setCell ⟨w5.heap.size, 0, none⟩ (.int .i64 (prs l).2.1)).setCell ⟨w5.heap.size, 1, none⟩ (.int .i64 (prs l).2.2)).cell? ⟨w5.heap.size, 0, none⟩ = some (.int .i64 (prs l).2.1) := by
    rw [World.cell?_setCell_other _ _ _ _ (by simp)]; exact World.cell?_setCell_same _ _ _ d0
  have k1 : ((w8.setCell ⟨w5.heap.size, 0, none⟩ (.int .i64 (prs l).2.1)).setCell ⟨w5.heap.size, 1, none⟩ (.int .i64 (prs l).2.2)).cell? ⟨w5.heap.size, 1, none⟩ = some (.int .i64 (prs l).2.2) :=
    World.cell?_setCell_same _ _ _ (u := .int .i64 (Bp.chk p).2) (by rw [World.cell?_setCell_other _ _ _ _ (by simp)]; exact d1)
  have m0 : ((w8.setCell ⟨w5.heap.size, 0, none⟩ (.int .i64 (prs l).2.1)).setCell ⟨w5.heap.size, 1, none⟩ (.int .i64 (prs l).2.2)).cell? ⟨w6.heap.size, 0, none⟩ = some (.int .i64 (Bp.chk p).1) := by
    rw [World.cell?_setCell_other _ _ _ _ (hne _ _), World.cell?_setCell_other _ _ _ _ (hne _ _)]; exact e0
  have m1 : ((w8.setCell ⟨w5.heap.size, 0, none⟩ (.int .i64 (prs l).2.1)).setCell ⟨w5.heap.size, 1, none⟩ (.int .i64 (prs l).2.2)).cell? ⟨w6.heap.size, 1, none⟩ = some (.int .i64 (Bp.chk p).2) := by
    rw [World.cell?_setCell_other _ _ _ _ (hne _ _), World.cell?_setCell_other _ _ _ _ (hne _ _)]; exact e1
  have n0 : ((w8.setCell ⟨w5.heap.size, 0, none⟩ (.int .i64 (prs l).2.1)).setCell ⟨w5.heap.size, 1, none⟩ (.int .i64 (prs l).2.2)).frozen? ⟨w6.heap.size, 0, none⟩ = false := by rw [frozen_setCell, frozen_setCell]; exact g0
  have n1 : ((w8.setCell ⟨w5.heap.size, 0, none⟩ (.int .i64 (prs l).2.1)).setCell ⟨w5.heap.size, 1, none⟩ (.int .i64 (prs l).2.2)).frozen? ⟨w6.heap.size, 1, none⟩ = false := by rw [frozen_setCell, frozen_setCell]; exact g1
  go_wp2_with fail
  clear hq hb hb1 hs5 hs6 d0 d1 e0 e1 f0 f1 g0 g1
  generalize hW8 : (w8.setCell ⟨w5.heap.size, 0, none⟩ (.int .i64 (prs l).2.1)).setCell ⟨w5.heap.size, 1, none⟩ (.int .i64 (prs l).2.2) = W8 at *
  have hz9 : w8.heap.size = W8.heap.size := by rw [← hW8]; simp
  clear hW8
  refine (rprog_any l vb W8 (hb8.up (by omega))).mono ?_
  rintro e w9 ⟨s, rfl, hb2, hs⟩
  replace k0 := (hb2.cell (p := ⟨w5.heap.size, 0, none⟩) (by simp; omega)).trans k0
  replace k1 := (hb2.cell (p := ⟨w5.heap.size, 1, none⟩) (by simp; omega)).trans k1
  replace m0 := (hb2.cell (p := ⟨w6.heap.size, 0, none⟩) (by simp; omega)).trans m0
  replace m1 := (hb2.cell (p := ⟨w6.heap.size, 1, none⟩) (by simp; omega)).trans m1
  replace n0 := (hb2.frozen (p := ⟨w6.heap.size, 0, none⟩) (by simp; omega)).trans n0
  replace n1 := (hb2.frozen (p := ⟨w6.heap.size, 1, none⟩) (by simp; omega)).trans n1
  replace hs8 := hs8.on hb2 (by omega)
  replace hq8 := hq8.on hb2 (by omega)
  replace hB8 := hB8.trans (hb2.mono (by omega))
  clear hb2
  unfold faultV
  have hq9 := (hq8.small hs8 0 (.int .i64 (prs l).2.1)).small (hs8.set w6.heap.size 0 (by omega) (.int .i64 (prs l).2.1)) 1 (.int .i64 (prs l).2.2)
  have hs9 := (hs.small hs8 0 (.int .i64 (prs l).2.1)).small (hs8.set w6.heap.size 0 (by omega) (.int .i64 (prs l).2.1)) 1 (.int .i64 (prs l).2.2)
  have hB9 := (hB8.setCell (p := ⟨w6.heap.size, 0, none⟩) (by simp; omega) (.int .i64 (prs l).2.1)).setCell (p := ⟨w6.heap.size, 1, none⟩) (by simp; omega) (.int .i64 (prs l).2.2)
  have hne5 : w5.heap.size ≠ w6.heap.size := by omega
  clear hq8 hs hB8 hs8 hne
  go_wp2_with fail
  refine (same_any (prs l).1 (prs l).1 q s _ _ _ hq9 hs9).mono ?_
  rintro e w10 ⟨rfl, n10, rfl⟩
  have hdec : decide ((prs l).1 = (prs l).1) = true := by simp
  rw [hdec]
  clear hdec hq9 hs9
  go_wp2
  go_ret
  exact ⟨rfl, below_drewN (rec_below hB9) n10⟩
end Go.Proofs.Ytkobjcbcmbecfaa
