/-
  The law GateOrder, walked.
-/
import Derived.Test.YtkikghdcnejjfabGPols
namespace Go.Proofs.Ytkikghdcnejjfab
open Go.RowKit
/-- What comes of the program of policies. -/
def nOf (r : Nat → Int) (l : List Gp.Pol) : Int := if Gp.allows r l then 1 else 0
theorem Gp.Fine.drop1 {l : List Gp.Pol} (h : Gp.Fine l) : Gp.Fine (l.drop 1) := by
  cases l with
  | nil => exact h
  | cons P t => exact h.tail
theorem nOf_drop {l : List Gp.Pol} (h : Gp.Fine l) (r : Nat → Int) : (nOf r (l.drop 1) = 0 ∧ (nOf r l = 0 ∨ nOf r l = 1)) ∨ (nOf r (l.drop 1) = 1 ∧ nOf r l = 1) := by
  unfold nOf
  cases h1 : Gp.allows r (l.drop 1)
  · cases h2 : Gp.allows r l <;> simp
  · have h2 : Gp.allows r l = true := by
      cases l with
      | nil => simp [Gp.allows] at h1
      | cons P t => exact Gp.allows_tail r h h1
    simp [h2]
/-- The world with a new fault, of nothing. -/
def fw (w : World) : World := w.alloc (.cells #[.int .i64 0, .int .i64 0] 27)
theorem fw_below (w : World) : Below w.heap.size w (fw w) := (Below.refl _ _).alloc (Nat.le_refl _) _
theorem fw_size (w : World) : (fw w).heap.size = w.heap.size + 1 := by simp [fw]
/-- A fault of nothing lies in block g. -/
def FAt (w : World) (g : Nat) : Prop := w.heap[g]? = some (.cells #[.int .i64 0, .int .i64 0] 27 (0, 0))
theorem fw_at (w : World) : FAt (fw w) w.heap.size := by
  show (w.heap.push _)[w.heap.size]? = _
  simp
theorem FAt.on {w w' : World} {g : Nat} (h : FAt w g) (hb : Below w.heap.size w w') : FAt w' g := by
  unfold FAt
  rw [hb.block g (lt_of_block h)]
  exact h
theorem FAt.cell {w : World} {g : Nat} (h : FAt w g) : w.cell? ⟨g, 0, none⟩ = some (.int .i64 0) ∧ w.cell? ⟨g, 1, none⟩ = some (.int .i64 0) := by
  unfold FAt at h
  constructor <;> simp [World.cell?, h]
theorem FAt.free {w : World} {g : Nat} (h : FAt w g) : w.frozen? ⟨g, 0, none⟩ = false ∧ w.frozen? ⟨g, 1, none⟩ = false := by
  unfold FAt at h
  constructor <;> simp [World.frozen?, h]
/-- The world with a fault stored anew. -/
def fset (w : World) (g : Nat) : World := (w.setCell ⟨g, 0, none⟩ (.int .i64 0)).setCell ⟨g, 1, none⟩ (.int .i64 0)
theorem fset_cell {w : World} {g : Nat} (h : FAt w g) : (fset w g).cell? ⟨g, 0, none⟩ = some (.int .i64 0) := by
  unfold fset
  rw [World.cell?_setCell_other _ _ _ _ (by simp)]
  exact World.cell?_setCell_same _ _ _ h.cell.1
theorem fset_size (w : World) (g : Nat) : (fset w g).heap.size = w.heap.size := by unfold fset; rw [World.size_setCell, World.size_setCell]
theorem RB.fset {w : World} {r : Nat → Int} {W : World} {g : Nat} (h : RB w r W) (hg : w.heap.size + 1 ≤ g) : RB w r (fset W g) := RB.of ((h.bel.setCell hg _).setCell hg _)
def TRel (w : World) (r : Nat → Int) (ts : List (Gp.Pol × Value)) (v i : Value) (wr : World) : Prop :=
  ∃ k : Nat, k ≤ ts.length ∧ i = .int .i64 k ∧ wr.ownsRow (w.heap.size + 1) 41 2 v k (flat2 (ts.reverse.take k)) ∧ RB w r wr
theorem tail_none (ts : List (Gp.Pol × Value)) (a : Option Addr) (W : World) (h : ts.length ≤ 1) : PHolds W W.heap.size (.slice a (ts.length - 1) 0) ((ts.map Prod.fst).drop 1) :=
  Or.inl ⟨a, 0, by rw [show ts.length - 1 = 0 by omega], List.length_eq_zero_iff.1 (by rw [List.length_drop, List.length_map]; omega)⟩
set_option maxRecDepth 100000 in
set_option maxHeartbeats 4000000 in
theorem gorder_some (ts : List (Gp.Pol × Value)) (hf : Gp.Fine (ts.map Prod.fst)) (r : Nat → Int) (b o cap : Nat) (w : World) (hb : b < w.heap.size) (hl : TLies w w.heap.size b o ts) (hp : PHolds w w.heap.size (.slice (some ⟨b, o, none⟩) ts.length cap) (ts.map Prod.fst)) (h1 : 1 ≤ ts.length) (hc1 : ts.length ≤ cap) (hc2 : cap ≤ maxLen) :
    Calls Try.prog 6 #[.slice (some ⟨b, o, none⟩) ts.length cap, recV r] w fun e w' => e = .returned (.bool true) ∧ Below w.heap.size w w' := by
  have HV : Hid (PHolds w w.heap.size (.slice (some ⟨b, o, none⟩) ts.length cap) (ts.map Prod.fst)) := hp
  have HT : Hid (TLies w w.heap.size b o ts) := hl
  have HF : Hid (Gp.Fine (ts.map Prod.fst)) := hf
  have h30 : ts.length ≤ 30 := by have := hf.few; rw [List.length_map] at this; exact this
  obtain ⟨n, hn⟩ : ∃ n : Int, n = nOf r (ts.map Prod.fst) := ⟨_, rfl⟩
  obtain ⟨m, hm⟩ : ∃ m : Int, m = nOf r ((ts.map Prod.fst).drop 1) := ⟨_, rfl⟩
  have HN1 : Hid ((Bp.run (Gp.comp (ts.map Prod.fst)) r).1 = n) := (Gp.run_comp r hf).trans hn.symm
  have HN2 : Hid ((Bp.run (Gp.comp (ts.map Prod.fst).reverse) r).1 = n) := by
    unfold Hid; rw [Gp.run_comp r hf.reverse, hn, nOf, Gp.allows_reverse r hf]
  have HFT : Hid (Gp.Fine ((ts.map Prod.fst).drop 1)) := hf.drop1
  have HN3 : Hid ((Bp.run (Gp.comp ((ts.map Prod.fst).drop 1)) r).1 = m) := (Gp.run_comp r HFT.out).trans hm.symm
  have HNM : Hid ((m = 0 ∧ (n = 0 ∨ n = 1)) ∨ (m = 1 ∧ n = 1)) := by unfold Hid; rw [hn, hm]; exact nOf_drop hf r
  have HTL : Hid (∀ W, RB w r W → PHolds W W.heap.size (.slice (some ⟨b, o + 2, none⟩) (ts.length - 1) (cap - 1)) ((ts.map Prod.fst).drop 1)) := fun W hW => by
    have hz := hW.bel.size
    rw [withRec_size] at hz
    have hT := (hl.on (withRec_below w r) hb (Nat.le_refl _)).on hW.bel (by omega) (by omega)
    refine Or.inr ⟨b, o + 2, cap - 1, by rw [List.length_drop, List.length_map], by omega, by rw [List.length_drop, List.length_map]; omega, by omega, ?_⟩
    intro i P hP
    rw [List.getElem?_drop, List.getElem?_map] at hP
    cases ht : ts[1 + i]? with
    | none => rw [ht] at hP; cases hP
    | some t =>
      rw [ht] at hP
      simp at hP
      subst hP
      obtain ⟨e1, e2, e3⟩ := hT (1 + i) t ht
      rw [show o + (1 + i) * 2 = o + 2 + i * 2 by omega] at e1 e2
      exact ⟨e1, t.2, e2, e3.up (by omega)⟩
  have hfe := fun (w : World) => field_err 0 0 w
  have h0 : RB w r (withRec w r) := RB.of (Below.refl _ _)
  have H0 : Hid (RB w r (withRec w r)) := h0
  clear hp hl hf h0 hn hm
  unfold recV
  go_enter Try.func6, Try.ntmps6
  go_wp2_with fail
  refine (alive3_any (withRec w r)).mono ?_
  rintro e w1 ⟨rfl, hb1⟩
  have hR1 : RB w r w1 := H0.out.trans hb1
  have HR1 : Hid (RB w r w1) := hR1
  clear hb1 hR1 H0
  go_wp2_with fail
  refine (gWrong_any _ _ w1 (HR1.out.holds HV.out)).mono ?_
  rintro e w2 ⟨rfl, hb2⟩
  rw [Gp.wrongP_fine HF.out]
  unfold faultV
  have HR2 : Hid (RB w r w2) := HR1.out.trans hb2
  clear hb2 HR1
  go_wp2_with fail
  go_loopw [5, 26] (fun v i wr => TRel w r ts v i wr) (fun _ i _ => ts.length - (intOf i).toNat)
  case atStart => exact ⟨0, Nat.zero_le _, rfl, ⟨rfl, Or.inl ⟨rfl, rfl⟩⟩, HR2.out⟩
  case round =>
    obtain ⟨k, hk, rfl, hown, hR⟩ := hrel
    have hzr : w.heap.size + 1 ≤ wr.heap.size := by have := hR.bel.size; rw [withRec_size] at this; exact this
    have HR : Hid (RB w r wr) := hR
    clear HR2 hR
    by_cases hlt : k < ts.length
    · obtain ⟨t, ht, hrev⟩ := rev_step ts k hlt
      have HRV : Hid (ts.reverse.take (k + 1) = ts.reverse.take k ++ [t]) := hrev
      obtain ⟨c0, c1, hM⟩ := ((HT.out.on (withRec_below w r) hb (Nat.le_refl _)).on HR.out.bel (by omega) (by omega)) _ t ht
      have hcast : ((ts.length : Int) - 1 - (k : Int)) = ((ts.length - 1 - k : Nat) : Int) := by omega
      have hin : ts.length - 1 - k < ts.length := by omega
      obtain ⟨am, capm, hmv, -⟩ := hM.form
      clear ht hrev hM
      obtain ⟨⟨call, ms⟩, mv⟩ := t
      dsimp only at c0 c1 hmv
      subst hmv
      have hown3 := hown.alloc (.cells #[.int .i64 call, .slice am ms.length capm] 41)
      have hlen : (ts.reverse.take k).length = k := by rw [List.length_take, List.length_reverse]; omega
      have hR3 : RB w r (wr.alloc (.cells #[.int .i64 call, .slice am ms.length capm] 41)) := HR.out.trans ((Below.refl _ _).alloc (Nat.le_refl _) _)
      have HR3 : Hid _ := hR3
      have HO3 : Hid ((wr.alloc (.cells #[.int .i64 call, .slice am ms.length capm] 41)).ownsRow (w.heap.size + 1) 41 2 u5 (ts.reverse.take k).length (flat2 (ts.reverse.take k))) := by unfold Hid; rw [hlen]; exact hown3
      clear hR3 hown3
      go_wp2_with (at_builtin; refine wpList_pols rfl _ _ rfl (w.heap.size + 1) u5 (ts.reverse.take k) (⟨call, ms⟩, .slice am ms.length capm) rfl rfl HO3.out wr.heap.size 1 rfl ?a0 ?a1 ?a2 ?a3 ?_)
      case a2 => first | omega | (simp; omega)
      case a3 => first | omega | (simp; omega)
      intro v4 w4 ho4 hg4
      have hB4 : RB w r w4 := RB.of (HR3.out.bel.grown hg4 (by simp; omega) (fun j hj => (HO3.out.lt j hj).1))
      have HO4 : Hid (w4.ownsRow (w.heap.size + 1) 41 2 v4 (k + 1) (flat2 (ts.reverse.take (k + 1)))) := by unfold Hid; rw [HRV.out]; exact ho4
      have HB4 : Hid _ := hB4
      clear HR3 HO3 hg4 ho4 hlen hown HR c0 c1 hB4 hcast HRV
      go_wp2
      exact ⟨⟨k + 1, by omega, by go_num, HO4.out, HB4.out⟩, by simp [intOf]; omega⟩
    · obtain rfl : k = ts.length := by omega
      have hPt : PHolds wr wr.heap.size u5 (ts.map Prod.fst).reverse := by
        have htk : ts.reverse.take ts.length = ts.reverse := by rw [List.take_of_length_le (by simp)]
        rw [htk] at hown
        rw [← List.map_reverse]
        refine pholds_own (B := w.heap.size) (by rw [List.length_reverse]; exact hown) (by omega) fun t ht => ?_
        obtain ⟨i, hi, rfl⟩ := List.mem_iff_getElem.1 (List.mem_reverse.1 ht)
        exact (((HT.out.on (withRec_below w r) hb (Nat.le_refl _)).on HR.out.bel (by omega) (by omega)) i _ (List.getElem?_eq_getElem hi)).2.2
      have HPT : Hid (PHolds wr wr.heap.size u5 (ts.map Prod.fst).reverse) := hPt
      clear hPt hown
      go_wp2_with fail
      refine (compile_fine _ HF.out _ wr (HR.out.holds HV.out)).mono ?_
      rintro e w3 ⟨x, rfl, hox, hb3⟩
      have HR3 : Hid (RB w r w3) := HR.out.trans hb3
      have HPT3 : Hid (PHolds w3 w3.heap.size u5 (ts.map Prod.fst).reverse) := (HPT.out.on hb3 (Nat.le_refl _)).up hb3.size
      have HX3 : Hid (Holds w3 w3.heap.size x (Gp.comp (ts.map Prod.fst))) := holds_own hox
      have HL3 : Hid (∃ a c, x = .slice a (Gp.comp (ts.map Prod.fst)).length c) := HX3.out.form
      obtain ⟨xa, xc, rfl⟩ := HL3.out
      have HR3' : Hid (RB w r (fw w3)) := HR3.out.trans (fw_below w3)
      have HPT3' : Hid (PHolds (fw w3) (fw w3).heap.size u5 (ts.map Prod.fst).reverse) := (HPT3.out.on (fw_below w3) (Nat.le_refl _)).up (fw_below w3).size
      have HX3' : Hid (Holds (fw w3) (fw w3).heap.size (.slice xa (Gp.comp (ts.map Prod.fst)).length xc) (Gp.comp (ts.map Prod.fst))) := (HX3.out.on (fw_below w3) (Nat.le_refl _)).up (fw_below w3).size
      have HF3 : Hid (FAt (fw w3) w3.heap.size) := fw_at w3
      have HZ3 : Hid (w.heap.size + 1 ≤ w3.heap.size) := by have := HR3.out.bel.size; rw [withRec_size] at this; exact this
      clear hox hb3 HPT HR HR3 HPT3 HX3 HL3
      go_wp2_with fail
      change Calls Try.prog 15 #[u5] (fw w3) _
      generalize fw w3 = W3 at *
      refine (compile_fine _ HF.out.reverse u5 W3 HPT3'.out).mono ?_
      rintro e w4 ⟨y, rfl, hoy, hb4⟩
      have HX4 : Hid (Holds w4 w4.heap.size (.slice xa (Gp.comp (ts.map Prod.fst)).length xc) (Gp.comp (ts.map Prod.fst))) := (HX3'.out.on hb4 (Nat.le_refl _)).up hb4.size
      have HY4 : Hid (Holds w4 w4.heap.size y (Gp.comp (ts.map Prod.fst).reverse)) := holds_own hoy
      obtain ⟨ya, yc, rfl⟩ := HY4.out.form
      have HR4 : Hid (RB w r (fw w4)) := (HR3'.out.trans hb4).trans (fw_below w4)
      have HX4' : Hid (Holds (fw w4) (fw w4).heap.size (.slice xa (Gp.comp (ts.map Prod.fst)).length xc) (Gp.comp (ts.map Prod.fst))) := (HX4.out.on (fw_below w4) (Nat.le_refl _)).up (fw_below w4).size
      have HY4' : Hid (Holds (fw w4) (fw w4).heap.size (.slice ya (Gp.comp (ts.map Prod.fst).reverse).length yc) (Gp.comp (ts.map Prod.fst).reverse)) := (HY4.out.on (fw_below w4) (Nat.le_refl _)).up (fw_below w4).size
      have HF4 : Hid (FAt (fw w4) w3.heap.size) := (HF3.out.on hb4).on (fw_below w4)
      have HG4 : Hid (FAt (fw w4) w4.heap.size) := fw_at w4
      obtain ⟨-, c0, c1, c2, c3, c4, c5⟩ := HR4.out
      unfold fw at c0 c1 c2 c3 c4 c5
      clear hoy hb4 HR3' HPT3' HX3' HF3 HX4 HY4
      go_wp2_with fail
      change Calls Try.prog 9 #[_, recV r] (fw w4) _
      generalize fw w4 = W4 at *
      refine (run_any _ r _ W4 HX4'.out).mono ?_
      rintro e w5 ⟨rfl, hb5⟩
      rw [HN1.out]
      have HR5 : Hid (RB w r w5) := HR4.out.trans hb5
      have HY5 : Hid (Holds w5 w5.heap.size (.slice ya (Gp.comp (ts.map Prod.fst).reverse).length yc) (Gp.comp (ts.map Prod.fst).reverse)) := (HY4'.out.on hb5 (Nat.le_refl _)).up hb5.size
      have HF5 : Hid (FAt w5 w3.heap.size) := HF4.out.on hb5
      have HG5 : Hid (FAt w5 w4.heap.size) := HG4.out.on hb5
      clear hb5 HR4 HX4' HY4' HF4 HG4 c0 c1 c2 c3 c4 c5
      obtain ⟨-, c0, c1, c2, c3, c4, c5⟩ := HR5.out
      go_wp2_with fail
      refine (run_any _ r _ w5 HY5.out).mono ?_
      rintro e w6 ⟨rfl, hb6⟩
      rw [HN2.out]
      have HR6 : Hid (RB w r w6) := HR5.out.trans hb6
      have HF6 : Hid (FAt w6 w3.heap.size) := HF5.out.on hb6
      have HG6 : Hid (FAt w6 w4.heap.size) := HG5.out.on hb6
      clear hb6 HR5 HY5 HF5 HG5 c0 c1 c2 c3 c4 c5
      have cF := HF6.out.cell.1
      have cG := HG6.out.cell.1
      go_wp2_with fail
      all_goals refine (compile_fine _ HFT.out _ w6 (by first | exact HTL.out w6 HR6.out | exact tail_none ts _ w6 (by omega))).mono ?_
      all_goals rintro e w7 ⟨z, rfl, hoz, hb7⟩
      all_goals (have HF7 : Hid (FAt w7 w3.heap.size) := HF6.out.on hb7)
      all_goals (have HR7 : Hid (RB w r (fset w7 w3.heap.size)) := (HR6.out.trans hb7).fset HZ3.out)
      all_goals obtain ⟨cF0, cF1⟩ := HF7.out.cell
      all_goals obtain ⟨fF0, fF1⟩ := HF7.out.free
      all_goals (have hlo : ∀ (o : Nat), z.ownBlock ≠ some (⟨w3.heap.size, o, none⟩ : Addr).block := fun o => own_other hoz HF7.out (by decide))
      all_goals (have hoz2 := ownsRow_setCell_other (a := ⟨w3.heap.size, 1, none⟩) (ownsRow_setCell_other (a := ⟨w3.heap.size, 0, none⟩) hoz (hlo 0) (.int .i64 0)) (hlo 1) (.int .i64 0))
      all_goals (have HZ : Hid (Holds (fset w7 w3.heap.size) (fset w7 w3.heap.size).heap.size z (Gp.comp ((ts.map Prod.fst).drop 1))) := holds_own hoz2)
      all_goals (have HC8 : Hid ((fset w7 w3.heap.size).cell? ⟨w3.heap.size, 0, none⟩ = some (.int .i64 0)) := fset_cell HF7.out)
      all_goals obtain ⟨-, c0, c1, c2, c3, c4, c5⟩ := HR7.out
      all_goals unfold fset at c0 c1 c2 c3 c4 c5
      all_goals clear hoz hoz2 hlo hb7
      all_goals go_wp2_with fail
      all_goals change Calls Try.prog 9 #[_, recV r] (fset w7 w3.heap.size) _
      all_goals generalize fset w7 w3.heap.size = W8 at *
      all_goals refine (run_any _ r _ W8 HZ.out).mono ?_
      all_goals rintro e w9 ⟨rfl, hb9⟩
      all_goals rw [HN3.out]
      all_goals (have cE := (hb9.cell (p := ⟨w3.heap.size, 0, none⟩) (cell_below HC8.out)).trans HC8.out)
      all_goals (have b9 := (HR7.out.trans hb9).bel)
      all_goals clear hb9 HR7 HZ HC8 c0 c1 c2 c3 c4 c5 cF0 cF1 fF0 fF1
      all_goals rcases HNM.out with ⟨rfl, rfl | rfl⟩ | ⟨rfl, rfl⟩
      all_goals go_wp2
      all_goals go_ret
      all_goals exact ⟨rfl, rec_below b9⟩
theorem fine_nil : Gp.Fine [] := ⟨by simp, by simp, by simp⟩
set_option maxRecDepth 100000 in
set_option maxHeartbeats 4000000 in
theorem gorder_nil (r : Nat → Int) (a : Option Addr) (cap : Nat) (w : World) :
    Calls Try.prog 6 #[.slice a 0 cap, recV r] w fun e w' => e = .returned (.bool true) ∧ Below w.heap.size w w' := by
  have HN1 : Hid ((Bp.run (Gp.comp []) r).1 = 0) := Gp.run_comp r fine_nil
  have HPN : Hid (∀ (W : World) (a : Option Addr) (c : Nat), PHolds W W.heap.size (.slice a 0 c) []) := fun W a c => Or.inl ⟨a, c, rfl, rfl⟩
  have hfe := fun (w : World) => field_err 0 0 w
  have H0 : Hid (RB w r (withRec w r)) := RB.of (Below.refl _ _)
  unfold recV
  go_enter Try.func6, Try.ntmps6
  go_wp2_with fail
  refine (alive3_any (withRec w r)).mono ?_
  rintro e w1 ⟨rfl, hb1⟩
  have HR1 : Hid (RB w r w1) := H0.out.trans hb1
  clear hb1 H0
  go_wp2_with fail
  refine (gWrong_any [] _ w1 (HPN.out _ _ _)).mono ?_
  rintro e w2 ⟨rfl, hb2⟩
  rw [Gp.wrongP_fine fine_nil]
  unfold faultV
  have HR : Hid (RB w r w2) := HR1.out.trans hb2
  clear hb2 HR1
  go_wp2_with fail
  refine wp_loop_rounds 1 ?_
  rw [rounds_succ]
  go_wp2_with fail
  refine (compile_fine [] fine_nil _ w2 (HPN.out _ _ _)).mono ?_
  rintro e w3 ⟨x, rfl, hox, hb3⟩
  have HR3 : Hid (RB w r w3) := HR.out.trans hb3
  have HX3 : Hid (Holds w3 w3.heap.size x (Gp.comp [])) := holds_own hox
  have HR3' : Hid (RB w r (fw w3)) := HR3.out.trans (fw_below w3)
  have HX3' : Hid (Holds (fw w3) (fw w3).heap.size x (Gp.comp [])) := (HX3.out.on (fw_below w3) (Nat.le_refl _)).up (fw_below w3).size
  have HF3 : Hid (FAt (fw w3) w3.heap.size) := fw_at w3
  clear hox hb3 HR HR3 HX3
  go_wp2_with fail
  change Calls Try.prog 15 #[_] (fw w3) _
  generalize fw w3 = W3 at *
  refine (compile_fine [] fine_nil _ W3 (HPN.out _ _ _)).mono ?_
  rintro e w4 ⟨y, rfl, hoy, hb4⟩
  have HX4 : Hid (Holds w4 w4.heap.size x (Gp.comp [])) := (HX3'.out.on hb4 (Nat.le_refl _)).up hb4.size
  have HY4 : Hid (Holds w4 w4.heap.size y (Gp.comp [])) := holds_own hoy
  have HR4 : Hid (RB w r (fw w4)) := (HR3'.out.trans hb4).trans (fw_below w4)
  have HX4' : Hid (Holds (fw w4) (fw w4).heap.size x (Gp.comp [])) := (HX4.out.on (fw_below w4) (Nat.le_refl _)).up (fw_below w4).size
  have HY4' : Hid (Holds (fw w4) (fw w4).heap.size y (Gp.comp [])) := (HY4.out.on (fw_below w4) (Nat.le_refl _)).up (fw_below w4).size
  have HF4 : Hid (FAt (fw w4) w3.heap.size) := (HF3.out.on hb4).on (fw_below w4)
  have HG4 : Hid (FAt (fw w4) w4.heap.size) := fw_at w4
  obtain ⟨-, c0, c1, c2, c3, c4, c5⟩ := HR4.out
  unfold fw at c0 c1 c2 c3 c4 c5
  clear hoy hb4 HR3' HX3' HF3 HX4 HY4
  go_wp2_with fail
  change Calls Try.prog 9 #[_, recV r] (fw w4) _
  generalize fw w4 = W4 at *
  refine (run_any _ r _ W4 HX4'.out).mono ?_
  rintro e w5 ⟨rfl, hb5⟩
  rw [HN1.out]
  have HR5 : Hid (RB w r w5) := HR4.out.trans hb5
  have HY5 : Hid (Holds w5 w5.heap.size y (Gp.comp [])) := (HY4'.out.on hb5 (Nat.le_refl _)).up hb5.size
  have HF5 : Hid (FAt w5 w3.heap.size) := HF4.out.on hb5
  have HG5 : Hid (FAt w5 w4.heap.size) := HG4.out.on hb5
  clear hb5 HR4 HX4' HY4' HF4 HG4 c0 c1 c2 c3 c4 c5
  obtain ⟨-, c0, c1, c2, c3, c4, c5⟩ := HR5.out
  go_wp2_with fail
  refine (run_any _ r _ w5 HY5.out).mono ?_
  rintro e w6 ⟨rfl, hb6⟩
  rw [HN1.out]
  have HR6 : Hid (RB w r w6) := HR5.out.trans hb6
  have HF6 : Hid (FAt w6 w3.heap.size) := HF5.out.on hb6
  have HG6 : Hid (FAt w6 w4.heap.size) := HG5.out.on hb6
  clear hb6 HR5 HY5 HF5 HG5 c0 c1 c2 c3 c4 c5
  have cF := HF6.out.cell.1
  have cG := HG6.out.cell.1
  go_wp2
  go_ret
  exact ⟨rfl, rec_below HR6.out.bel⟩
set_option maxHeartbeats 1000000 in
theorem gorder_bad (l : List Gp.Pol) (hf : (Gp.wrongP l).1 ≠ 0) (r : Nat → Int) (v : Value) (w : World) (hv : PHolds w w.heap.size v l) :
    Calls Try.prog 6 #[v, recV r] w fun e w' => e = .returned (.bool true) ∧ Below w.heap.size w w' := by
  have HV : Hid (PHolds w w.heap.size v l) := hv
  have hne : ((Gp.wrongP l).1 != 0) = true := by simpa using hf
  have hfe := fun (w : World) => field_err (Gp.wrongP l).1 (Gp.wrongP l).2 w
  have H0 : Hid (RB w r (withRec w r)) := RB.of (Below.refl _ _)
  clear hv hf
  unfold recV
  go_enter Try.func6, Try.ntmps6
  go_wp2_with fail
  refine (alive3_any (withRec w r)).mono ?_
  rintro e w1 ⟨rfl, hb1⟩
  have HR1 : Hid (RB w r w1) := H0.out.trans hb1
  clear hb1 H0
  go_wp2_with fail
  refine (gWrong_any l v w1 (HR1.out.holds HV.out)).mono ?_
  rintro e w2 ⟨rfl, hb2⟩
  unfold faultV
  have HR : Hid (RB w r w2) := HR1.out.trans hb2
  clear hb2 HR1
  go_wp2
  go_ret
  exact ⟨rfl, rec_below HR.out.bel⟩
theorem gorder_any (l : List Gp.Pol) (r : Nat → Int) (v : Value) (w : World) (hv : PHolds w w.heap.size v l) :
    Calls Try.prog 6 #[v, recV r] w fun e w' => e = .returned (.bool true) ∧ Below w.heap.size w w' := by
  by_cases h : (Gp.wrongP l).1 = 0
  · have hf := (Gp.fine_iff l).1 h
    have hv0 := hv
    rcases hv with ⟨a, cap, rfl, rfl⟩ | ⟨b, o, cap, rfl, hlt, h1, h2, hl⟩
    · exact gorder_nil r a cap w
    · by_cases h0 : 1 ≤ l.length
      · obtain ⟨ts, rfl, hT⟩ := hl.told
        rw [List.length_map] at *
        exact gorder_some ts hf r b o cap w hlt hT hv0 h0 h1 h2
      · obtain rfl : l = [] := List.length_eq_zero_iff.1 (by omega)
        exact gorder_nil r _ cap w
  · exact gorder_bad l h r v w hv
end Go.Proofs.Ytkikghdcnejjfab
