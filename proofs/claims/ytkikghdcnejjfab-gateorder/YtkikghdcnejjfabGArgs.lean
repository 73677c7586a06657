/-
  Arguments opened: policies.
-/
import Derived.Test.YtkikghdcnejjfabGPlain
import Derived.WalkKit
import Derived.ProofKit
import Derived.OpenShut
import Derived.ShutString
import Derived.ChangeOld
import Derived.Deep.Slices
import Derived.Deep.SlicePairs
namespace Go.Proofs.Ytkikghdcnejjfab
open Go.ChangeShapes Go.WideShapes Go.ChangeAt Go.RowKit Go.Deep
theorem Try.cellsPol : Try.prog.cellsOf 41 = 2 := by kernel_rfl
theorem Try.cellsMask : Try.prog.cellsOf 53 = 2 := by kernel_rfl
theorem Try.cellsIntG : Try.prog.cellsOf 3 = 1 := by kernel_rfl
theorem Try.cellsMasks : Try.prog.cellsOf 39 = 1 := by kernel_rfl
theorem Try.cellsRecG : Try.prog.cellsOf 23 = 6 := by kernel_rfl
theorem six_cells {α : Type} {cs : Array α} (h : cs.size = 6) : ∃ c0 c1 c2 c3 c4 c5, cs = #[c0, c1, c2, c3, c4, c5] := by
  obtain ⟨l⟩ := cs
  match l, h with
  | [a, b, c, d, e, f], _ => exact ⟨a, b, c, d, e, f, rfl⟩
theorem cell_lt {w : World} {a : Addr} {v : Value} (h : w.cell? a = some v) : a.block < w.heap.size := by
  rcases Nat.lt_or_ge a.block w.heap.size with h' | h'
  · exact h'
  · simp [World.cell?, Array.getElem?_eq_none h'] at h
section
variable {H : Type} {enc : TypeId × Value → H} {W : World}
theorem open_masks {base : Nat} {sp : Nat → Bool} {held : Bool} {n : Nat} {v : Value} {x : DataW H × List MemPlace} (h : DataW.trod enc Try.prog W base sp held n 39 [v] = some x) :
    ∃ ms : List (Int × Int), MHolds W W.heap.size v ms := by
  rcases open_slice_pairs Try.underlying39 Try.underlying53 Try.cellsMask rfl rfl Try.cellsIntG Try.cellsIntG h with ⟨hcs, hx⟩ | ⟨a, len, cap, m, n', V0, V1, D0, D1, P0, P1, hcs, _, hl, hm, hmm, hx, hel⟩
  · simp at hcs
    exact ⟨[], Or.inl ⟨_, _, hcs, rfl⟩⟩
  · simp at hcs
    subst hcs
    have hlm : len ≤ m := by rw [hmm]; split <;> omega
    by_cases h0 : len = 0
    · subst h0; exact ⟨[], Or.inl ⟨_, _, rfl, rfl⟩⟩
    obtain ⟨I, hI⟩ := choose_lt (α := Int × Int) (n := len) (p := fun i x => W.cell? (a.add (i * 2)) = some (.int .i64 x.1) ∧ W.cell? (a.add (i * 2 + 1)) = some (.int .i64 x.2)) (fun i hi => by
      obtain ⟨e0, e1, t0, t1⟩ := hel i (by omega)
      obtain ⟨z0, hz0, _, _⟩ := DataW.trod_int Try.underlying3 t0
      obtain ⟨z1, hz1, _, _⟩ := DataW.trod_int Try.underlying3 t1
      simp at hz0 hz1
      rw [hz0] at e0
      rw [hz1] at e1
      exact ⟨(z0, z1), e0, e1⟩)
    obtain ⟨ab, ao, spot⟩ := a
    have hspot : spot = none := by simpa [Addr.add] using World.cell?_spot (hI 0 (by omega)).1
    subst hspot
    simp only [Addr.add_lit] at hI
    have hlt : ab < W.heap.size := cell_lt (hI 0 (by omega)).1
    refine ⟨(List.range len).map I, Or.inr ⟨ab, ao, cap, by simp, hlt, by simp; omega, ?_⟩⟩
    intro i x hx
    rw [List.getElem?_map] at hx
    by_cases hi : i < len
    · rw [List.getElem?_range hi] at hx
      simp at hx
      subst hx
      exact hI i hi
    · rw [List.getElem?_eq_none (by simp; omega)] at hx
      cases hx
theorem open_pols {base b0 : Nat} {held : Bool} {r : Reach} {v : Value} {d : DataW H} {q : List MemPlace} {sp : Nat → Bool}
    (hv : Value.okWide Try.prog W r b0 34 v) (h : DataW.Trod enc Try.prog W base sp held 34 v d q) :
    ∃ l : List Gp.Pol, PHolds W W.heap.size v l := by
  obtain ⟨a1, len1, cap1, rfl⟩ := okWide_slice Try.underlying34 hv
  obtain ⟨fuel, hf⟩ := h
  have hf' : DataW.trod enc Try.prog W base sp held fuel 34 [.slice a1 len1 cap1] = some (d, q) := hf
  rcases open_slice_pairs Try.underlying34 Try.underlying41 Try.cellsPol rfl rfl Try.cellsIntG Try.cellsMasks hf' with ⟨hcs, hx⟩ | ⟨a, len, cap, m, n', V0, V1, D0, D1, P0, P1, hcs, _, hl, hm, hmm, hx, hel⟩
  · simp at hcs
    obtain ⟨rfl, rfl, rfl⟩ := hcs
    exact ⟨[], Or.inl ⟨_, _, rfl, rfl⟩⟩
  · simp at hcs
    obtain ⟨rfl, rfl, rfl⟩ := hcs
    have hlm : len1 ≤ m := by rw [hmm]; split <;> omega
    by_cases h0 : len1 = 0
    · subst h0; exact ⟨[], Or.inl ⟨_, _, rfl, rfl⟩⟩
    have each : ∀ i, i < len1 → ∃ x : Gp.Pol, W.cell? (a.add (i * 2)) = some (.int .i64 x.call) ∧ ∃ mv, W.cell? (a.add (i * 2 + 1)) = some mv ∧ MHolds W W.heap.size mv x.masks := fun i hi => by
      obtain ⟨e0, e1, t0, t1⟩ := hel i (by omega)
      obtain ⟨z0, hz0, _, _⟩ := DataW.trod_int Try.underlying3 t0
      obtain ⟨ms, hms⟩ := open_masks t1
      simp at hz0
      rw [hz0] at e0
      exact ⟨⟨z0, ms⟩, e0, _, e1, hms⟩
    have hin : Inhabited Gp.Pol := ⟨⟨0, []⟩⟩
    obtain ⟨I, hI⟩ := choose_lt each
    obtain ⟨ab, ao, spot⟩ := a
    have hspot : spot = none := by simpa [Addr.add] using World.cell?_spot (hI 0 (by omega)).1
    subst hspot
    simp only [Addr.add_lit] at hI
    have hlt : ab < W.heap.size := cell_lt (hI 0 (by omega)).1
    refine ⟨(List.range len1).map I, Or.inr ⟨ab, ao, cap1, by simp, hlt, by simp; omega, hm, ?_⟩⟩
    intro i x hx
    rw [List.getElem?_map] at hx
    by_cases hi : i < len1
    · rw [List.getElem?_range hi] at hx
      simp at hx
      subst hx
      exact hI i hi
    · rw [List.getElem?_eq_none (by simp; omega)] at hx
      cases hx
theorem open_record {base b0 : Nat} {sp : Nat → Bool} {held : Bool} {r : Reach} {v : Value} {d : DataW H} {p : List MemPlace}
    (hv : Value.okWide Try.prog W r b0 23 v) (h : DataW.Trod enc Try.prog W base sp held 23 v d p) :
    ∃ f : Nat → Int, v = recV f := by
  obtain ⟨cs, rfl, hsz, _⟩ : ∃ cs, v = .agg cs ∧ cs.size = Try.prog.cellsOf 23 ∧ Row.okWide Try.prog W r b0 23 cs := by
    simpa [Value.okWide, Try.underlying23] using hv
  rw [Try.cellsRecG] at hsz
  obtain ⟨c0, c1, c2, c3, c4, c5, rfl⟩ := six_cells hsz
  obtain ⟨fuel, hf⟩ := h
  obtain ⟨xs, m, _, _, _, hl, hel⟩ := DataW.trod_array Try.underlying23 hf
  have key : ∀ (i : Nat) (c : Value), i < 6 → [c0, c1, c2, c3, c4, c5][i]? = some c → ∃ z, c = .int .i64 z := by
    intro i c hi hc
    have e := hel i hi
    rw [Try.cellsIntG] at e
    rw [List.getElem?_eq_getElem (by omega)] at e
    obtain ⟨z, ez, _, _⟩ := DataW.trod_int Try.underlying3 e
    refine ⟨z, ?_⟩
    have e6 : i = 0 ∨ i = 1 ∨ i = 2 ∨ i = 3 ∨ i = 4 ∨ i = 5 := by omega
    rcases e6 with rfl | rfl | rfl | rfl | rfl | rfl <;> simp [Value.cells] at ez hc <;> rw [← hc, ez]
  obtain ⟨z0, rfl⟩ := key 0 c0 (by omega) rfl
  obtain ⟨z1, rfl⟩ := key 1 c1 (by omega) rfl
  obtain ⟨z2, rfl⟩ := key 2 c2 (by omega) rfl
  obtain ⟨z3, rfl⟩ := key 3 c3 (by omega) rfl
  obtain ⟨z4, rfl⟩ := key 4 c4 (by omega) rfl
  obtain ⟨z5, rfl⟩ := key 5 c5 (by omega) rfl
  exact ⟨fun k => [z0, z1, z2, z3, z4, z5].getD k 0, rfl⟩
end
theorem law_own : ownKnob Try.prog.godebug = none := by kernel_rfl
theorem law_laidOut : laidOutB Try.prog = true := by kernel_rfl
end Go.Proofs.Ytkikghdcnejjfab
