/-
  What gate.Wrong answers.
-/
import Derived.Test.YtkikghdcnejjfabGWalkA
namespace Go.Proofs.Ytkikghdcnejjfab
open Go.RowKit
set_option maxHeartbeats 1000000 in
theorem oor_any (m : Int × Int) (w : World) :
    Calls Try.prog 35 #[maskV m] w fun e w' => e = .returned (.bool (Gp.badMask m)) ∧ Below w.heap.size w w' := by
  obtain ⟨a, b⟩ := m
  unfold maskV
  dsimp only
  generalize hres : Gp.badMask (a, b) = res
  have HR : Hid (Gp.badMask (a, b) = res) := hres
  clear hres
  have hB : ∀ x, Below w.heap.size w (w.alloc x) := fun x => (Below.refl _ _).alloc (Nat.le_refl _) _
  by_cases h1 : a < 1
  · obtain rfl : true = res := by rw [← HR.out]; unfold Gp.badMask; simp [h1]
    clear HR
    go_enter Try.func35, Try.ntmps35
    go_wp2
    go_ret
    exact ⟨rfl, hB _⟩
  by_cases h2 : 6 ≤ a
  · obtain rfl : true = res := by rw [← HR.out]; symm; unfold Gp.badMask; rw [decide_eq_true_eq]; dsimp only; omega
    clear HR
    go_enter Try.func35, Try.ntmps35
    go_wp2
    go_ret
    exact ⟨rfl, hB _⟩
  by_cases h3 : b < 1
  · obtain rfl : true = res := by rw [← HR.out]; symm; unfold Gp.badMask; rw [decide_eq_true_eq]; dsimp only; omega
    clear HR
    go_enter Try.func35, Try.ntmps35
    go_wp2
    go_ret
    exact ⟨rfl, hB _⟩
  by_cases h4 : 2147483648 ≤ b
  · obtain rfl : true = res := by rw [← HR.out]; symm; unfold Gp.badMask; rw [decide_eq_true_eq]; dsimp only; omega
    clear HR
    go_enter Try.func35, Try.ntmps35
    go_wp2
    go_ret
    exact ⟨rfl, hB _⟩
  · obtain rfl : false = res := by rw [← HR.out]; symm; unfold Gp.badMask; rw [decide_eq_false_iff_not]; dsimp only; omega
    clear HR
    go_enter Try.func35, Try.ntmps35
    go_wp2
    go_ret
    exact ⟨rfl, hB _⟩
theorem same_any (c c' : Int) (mv : Value) (g : Nat) (w : World) (hc : w.cell? ⟨g, 0, none⟩ = some (.int .i64 c')) (hg : g < w.heap.size) :
    Calls Try.prog 34 #[polV c mv, .pointer (some ⟨g, 0, none⟩)] w fun e w' => e = .returned (.bool (decide (c = c'))) ∧ Below w.heap.size w w' := by
  unfold polV
  have hc2 : ∀ x, (w.alloc x).cell? ⟨g, 0, none⟩ = some (.int .i64 c') := fun x => (((Below.refl w.heap.size w).alloc (Nat.le_refl _) x).cell (p := ⟨g, 0, none⟩) hg).trans hc
  go_enter Try.func34, Try.ntmps34
  go_wp2
  go_ret
  exact ⟨by simp; rfl, (Below.refl _ _).alloc (Nat.le_refl _) _⟩
theorem anyBad_eq (ms : List (Int × Int)) : Gp.anyBad ms = ms.any Gp.badMask := by
  induction ms with
  | nil => rfl
  | cons m t ih => rw [Gp.anyBad, List.any_cons, ih]
theorem anyCall_eq (c : Int) (l : List Gp.Pol) : l.any (fun Q => decide (Q.call = c)) = decide (c ∈ l.map Gp.Pol.call) := by
  rw [Bool.eq_iff_iff]
  simp
theorem runMakeFunc (fn : Fn) (first cap : Array Value) (w : World) : (Instr.makeFunc fn first cap).run Try.prog w = .ok (.func fn first cap) w := rfl
def withPol (w : World) (c : Int) (mv : Value) : World := w.alloc (.cells #[.int .i64 c, mv] 41)
theorem withPol_size (w : World) (c : Int) (mv : Value) : (withPol w c mv).heap.size = w.heap.size + 1 := by simp [withPol]
theorem withPol_below (w : World) (c : Int) (mv : Value) : Below w.heap.size w (withPol w c mv) := (Below.refl _ _).alloc (Nat.le_refl _) _
theorem pol_cells {w wr : World} {c : Int} {mv : Value} (hB : Below (w.heap.size + 1) (withPol w c mv) wr) : wr.cell? ⟨w.heap.size, 0, none⟩ = some (.int .i64 c) ∧ wr.cell? ⟨w.heap.size, 1, none⟩ = some mv := by
  refine ⟨(hB.cell (p := ⟨w.heap.size, 0, none⟩) (by simp)).trans ?_, (hB.cell (p := ⟨w.heap.size, 1, none⟩) (by simp)).trans ?_⟩ <;> simp [withPol]
theorem PHolds.up {w : World} {B B' : Nat} {v : Value} {l : List Gp.Pol} (h : PHolds w B v l) (hB : B ≤ B') : PHolds w B' v l := by
  rcases h with h | ⟨b, o, cap, hv, hlt, h1, h2, hl⟩
  · exact Or.inl h
  · refine Or.inr ⟨b, o, cap, hv, by omega, h1, h2, fun i P hP => ?_⟩
    obtain ⟨e1, mv, e2, e3⟩ := hl i P hP
    refine ⟨e1, mv, e2, ?_⟩
    rcases e3 with h | ⟨b', o', cap', hv', hlt', h'⟩
    · exact Or.inl h
    · exact Or.inr ⟨b', o', cap', hv', by omega, h'⟩
theorem MHolds.up {w : World} {B B' : Nat} {v : Value} {ms : List (Int × Int)} (h : MHolds w B v ms) (hB : B ≤ B') : MHolds w B' v ms := by
  rcases h with h | ⟨b', o', cap', hv', hlt', h'⟩
  · exact Or.inl h
  · exact Or.inr ⟨b', o', cap', hv', by omega, h'⟩
set_option maxHeartbeats 1000000 in
theorem gwrong_any (P : Gp.Pol) (mv : Value) (ahead : List Gp.Pol) (v : Value) (w : World) (hM : MHolds w w.heap.size mv P.masks) (hv : PHolds w w.heap.size v ahead) :
    Calls Try.prog 23 #[polV P.call mv, v] w fun e w' => e = .returned (.int .i64 (Gp.polErr (ahead.map Gp.Pol.call) P)) ∧ Below w.heap.size w w' := by
  obtain ⟨c, ms⟩ := P
  dsimp only at *
  generalize hres : Gp.polErr (ahead.map Gp.Pol.call) ⟨c, ms⟩ = res
  have HR : Hid (Gp.polErr (ahead.map Gp.Pol.call) ⟨c, ms⟩ = res) := hres
  clear hres
  have hB0 := withPol_below w c mv
  have hV0 : PHolds (withPol w c mv) (withPol w c mv).heap.size v ahead := (hv.on hB0 (Nat.le_refl _)).up (by rw [withPol_size]; omega)
  have hM0 : MHolds (withPol w c mv) w.heap.size mv ms := hM.on hB0 (Nat.le_refl _)
  have HV : Hid (PHolds (withPol w c mv) (withPol w c mv).heap.size v ahead) := hV0
  have HM : Hid (MHolds (withPol w c mv) w.heap.size mv ms) := hM0
  have hmk := runMakeFunc
  unfold polV
  by_cases h1 : c < 0
  · obtain rfl : 3 = res := by rw [← HR.out]; unfold Gp.polErr; rw [if_pos (Or.inl h1)]
    clear HR hv hM hV0 hM0
    go_enter Try.func23, Try.ntmps23
    go_wp2
    go_ret
    exact ⟨rfl, hB0⟩
  by_cases h2 : 2147483648 ≤ c
  · obtain rfl : 3 = res := by rw [← HR.out]; unfold Gp.polErr; rw [if_pos (Or.inr h2)]
    clear HR hv hM hV0 hM0
    go_enter Try.func23, Try.ntmps23
    go_wp2
    go_ret
    exact ⟨rfl, hB0⟩
  have hcn : ¬ (c < 0 ∨ 2147483648 ≤ c) := by omega
  have HP : Hid (PPred 34 #[.pointer (some ⟨w.heap.size, 0, none⟩)] (withPol w c mv) ahead (fun Q => decide (Q.call = c))) := by
    intro W Q mv' _ _ hb
    rw [withPol_size] at hb
    exact same_any Q.call c mv' w.heap.size W (pol_cells hb).1 (by have := hb.size; rw [withPol_size] at this; omega)
  clear hv hM hV0 hM0
  obtain ⟨am, capm, rfl, hmm⟩ := HM.out.form
  go_enter Try.func23, Try.ntmps23
  go_wp2_with fail
  refine (hasP_any 34 _ ahead _ v (withPol w c _) HV.out HP.out (enters_of Try.func34 (by kernel_rfl) rfl)).mono ?_
  rintro e w2 ⟨rfl, hb2⟩
  rw [anyCall_eq]
  rw [withPol_size] at hb2
  have hB2 : Below w.heap.size w w2 := hB0.trans (hb2.mono (by omega))
  have hM2 := HM.out.on hb2 (Nat.le_succ _)
  have HM2 : Hid (MHolds w2 w.heap.size (.slice am ms.length capm) ms) := hM2
  obtain ⟨c0, c1⟩ := pol_cells hb2
  have hz2 := hB2.size
  clear HM HV HP hb2 hM2
  by_cases h3 : c ∈ ahead.map Gp.Pol.call
  · obtain rfl : 7 = res := by rw [← HR.out]; unfold Gp.polErr; rw [if_neg hcn, if_pos h3]
    rw [decide_eq_true h3]
    clear HR h3
    go_wp2
    go_ret
    exact ⟨rfl, hB2⟩
  rw [decide_eq_false h3]
  by_cases h4 : 3 < ms.length
  · obtain rfl : 5 = res := by rw [← HR.out]; unfold Gp.polErr; rw [if_neg hcn, if_neg h3, if_pos h4]
    clear HR h3
    go_wp2
    go_ret
    exact ⟨rfl, hB2⟩
  have HR2 : Hid ((if Gp.anyBad ms = true then (3 : Int) else 0) = res) := by unfold Hid; rw [← HR.out]; unfold Gp.polErr; rw [if_neg hcn, if_neg h3, if_neg h4]
  clear HR h3
  go_wp2_with fail
  refine (hasM_any 35 #[] ms Gp.badMask _ w2 (HM2.out.up hz2) (fun W m _ _ => oor_any m W) (enters_of Try.func35 (by kernel_rfl) rfl)).mono ?_
  rintro e w3 ⟨rfl, hb3⟩
  rw [← anyBad_eq]
  have hB3 := hB2.trans (hb3.mono hz2)
  clear hb3 HM2
  cases hx : Gp.anyBad ms
  · obtain rfl : 0 = res := by rw [← HR2.out, hx]; rfl
    go_wp2
    go_ret
    exact ⟨rfl, hB3⟩
  · obtain rfl : 3 = res := by rw [← HR2.out, hx]; rfl
    go_wp2
    go_ret
    exact ⟨rfl, hB3⟩
end Go.Proofs.Ytkikghdcnejjfab
