/-
  Arguments opened: a program, a record, bytes.
-/
import Derived.Test.YtkobjcbcmbecfaaWalkG
import Derived.WalkKit
import Derived.ProofKit
import Derived.OpenShut
import Derived.ShutString
import Derived.ChangeOld
import Derived.Deep.Slices
namespace Go.Proofs.Ytkobjcbcmbecfaa
open Go.ChangeShapes Go.WideShapes Go.ChangeAt Go.RowKit Go.Deep
theorem Try.cellsIns : Try.prog.cellsOf 68 = 4 := by kernel_rfl
theorem Try.cellsInt : Try.prog.cellsOf 3 = 1 := by kernel_rfl
theorem Try.cellsByte : Try.prog.cellsOf 5 = 1 := by kernel_rfl
theorem Try.cellsRec : Try.prog.cellsOf 44 = 6 := by kernel_rfl
theorem block_lt {w : World} {a : Addr} {v : Value} (h : w.cell? a = some v) : a.block < w.heap.size := by
  rcases Nat.lt_or_ge a.block w.heap.size with h' | h'
  · exact h'
  · simp [World.cell?, Array.getElem?_eq_none h'] at h
section
variable {H : Type} {enc : TypeId × Value → H} {W : World}
theorem open_ins {base : Nat} {sp : Nat → Bool} {held : Bool} {n : Nat} {cs : List Value} {x : DataW H × List MemPlace} (h : DataW.trod enc Try.prog W base sp held n 68 cs = some x) :
    ∃ i : Bp.Ins, cs = [.int .i64 i.op, .int .i64 i.jt, .int .i64 i.jf, .int .i64 i.k] := by
  obtain ⟨xs, m, _, _, hl, hxl, hf⟩ := DataW.trod_struct Try.underlying68 h
  rw [Try.cellsIns] at hl
  match xs, hxl, cs, hl with
  | [y0, y1, y2, y3], _, [v0, v1, v2, v3], _ =>
    have g0 := hf 0 _ rfl
    have g1 := hf 1 _ rfl
    have g2 := hf 2 _ rfl
    have g3 := hf 3 _ rfl
    simp [Try.cellsInt] at g0 g1 g2 g3
    obtain ⟨a0, e0, _, _⟩ := DataW.trod_int Try.underlying3 g0
    obtain ⟨a1, e1, _, _⟩ := DataW.trod_int Try.underlying3 g1
    obtain ⟨a2, e2, _, _⟩ := DataW.trod_int Try.underlying3 g2
    obtain ⟨a3, e3, _, _⟩ := DataW.trod_int Try.underlying3 g3
    simp at e0 e1 e2 e3
    exact ⟨⟨a0, a1, a2, a3⟩, by rw [e0, e1, e2, e3]⟩
theorem open_prog {base b0 : Nat} {held : Bool} {r : Reach} {v : Value} {d : DataW H} {q : List MemPlace} {sp : Nat → Bool}
    (hv : Value.okWide Try.prog W r b0 43 v) (h : DataW.Trod enc Try.prog W base sp held 43 v d q) :
    ∃ p : List Bp.Ins, Holds W W.heap.size v p := by
  obtain ⟨a1, len1, cap1, rfl⟩ := okWide_slice Try.underlying43 hv
  obtain ⟨fuel, hf⟩ := h
  rcases open_slice Try.underlying43 hf with ⟨hcs, hx⟩ | ⟨a, len, cap, m, n, D, Pl, hcs, _, hl, hm, hmm, hx, hel⟩
  · simp [Value.cells] at hcs
    obtain ⟨rfl, rfl, rfl⟩ := hcs
    exact ⟨[], Holds.nil _ _ _ _⟩
  · simp [Value.cells] at hcs
    obtain ⟨rfl, rfl, rfl⟩ := hcs
    have hlm : len1 ≤ m := by rw [hmm]; split <;> omega
    by_cases h0 : len1 = 0
    · subst h0; exact ⟨[], Holds.nil _ _ _ _⟩
    rw [Try.cellsIns] at hel
    obtain ⟨I, hI⟩ := choose_lt (α := Bp.Ins) (n := len1) (p := fun i x => W.cells? base (a.add (i * 4)) 4 = some [.int .i64 x.op, .int .i64 x.jt, .int .i64 x.jf, .int .i64 x.k]) (fun i hi => by
      obtain ⟨cs', h1, h2⟩ := hel i (by omega)
      obtain ⟨x, rfl⟩ := open_ins h2
      exact ⟨x, h1⟩)
    have hcell : ∀ i, i < len1 → W.cell? (a.add (i * 4)) = some (.int .i64 (I i).op) ∧ W.cell? (a.add (i * 4 + 1)) = some (.int .i64 (I i).jt) ∧ W.cell? (a.add (i * 4 + 2)) = some (.int .i64 (I i).jf) ∧ W.cell? (a.add (i * 4 + 3)) = some (.int .i64 (I i).k) := by
      intro i hi
      obtain ⟨_, _, hc⟩ := World.cells?_some (hI i hi)
      have e0 := hc 0 (by omega)
      have e1 := hc 1 (by omega)
      have e2 := hc 2 (by omega)
      have e3 := hc 3 (by omega)
      rw [add_add] at e0 e1 e2 e3
      simp at e0 e1 e2 e3
      exact ⟨e0, e1, e2, e3⟩
    obtain ⟨ab, ao, spot⟩ := a
    have hspot : spot = none := by simpa [Addr.add] using World.cell?_spot (hcell 0 (by omega)).1
    subst hspot
    simp only [Addr.add_lit] at hcell
    have hlt : ab < W.heap.size := block_lt (hcell 0 (by omega)).1
    refine ⟨(List.range len1).map I, Or.inr ⟨ab, ao, cap1, by simp, hlt, by simp; omega, ?_⟩⟩
    intro i x hx
    rw [List.getElem?_map] at hx
    by_cases hi : i < len1
    · rw [List.getElem?_range hi] at hx
      simp at hx
      subst hx
      exact hcell i hi
    · rw [List.getElem?_eq_none (by simp; omega)] at hx
      cases hx
theorem six_of {α : Type} {cs : Array α} (h : cs.size = 6) : ∃ c0 c1 c2 c3 c4 c5, cs = #[c0, c1, c2, c3, c4, c5] := by
  obtain ⟨l⟩ := cs
  match l, h with
  | [a, b, c, d, e, f], _ => exact ⟨a, b, c, d, e, f, rfl⟩
theorem open_rec {base b0 : Nat} {sp : Nat → Bool} {held : Bool} {r : Reach} {v : Value} {d : DataW H} {p : List MemPlace}
    (hv : Value.okWide Try.prog W r b0 44 v) (h : DataW.Trod enc Try.prog W base sp held 44 v d p) :
    ∃ f : Nat → Int, v = recV f := by
  obtain ⟨cs, rfl, hsz, _⟩ : ∃ cs, v = .agg cs ∧ cs.size = Try.prog.cellsOf 44 ∧ Row.okWide Try.prog W r b0 44 cs := by
    simpa [Value.okWide, Try.underlying44] using hv
  rw [Try.cellsRec] at hsz
  obtain ⟨c0, c1, c2, c3, c4, c5, rfl⟩ := six_of hsz
  obtain ⟨fuel, hf⟩ := h
  obtain ⟨xs, m, _, _, _, hl, hel⟩ := DataW.trod_array Try.underlying44 hf
  have key : ∀ (i : Nat) (c : Value), i < 6 → [c0, c1, c2, c3, c4, c5][i]? = some c → ∃ z, c = .int .i64 z := by
    intro i c hi hc
    have e := hel i hi
    rw [Try.cellsInt] at e
    rw [List.getElem?_eq_getElem (by omega)] at e
    obtain ⟨z, ez, _, _⟩ := DataW.trod_int Try.underlying3 e
    refine ⟨z, ?_⟩
    have e6 : i = 0 ∨ i = 1 ∨ i = 2 ∨ i = 3 ∨ i = 4 ∨ i = 5 := by omega
    rcases e6 with rfl | rfl | rfl | rfl | rfl | rfl <;> simp [Value.cells] at ez hc <;> rw [← hc, ez]
  obtain ⟨z0, rfl⟩ := key 0 c0 (by omega) rfl
  obtain ⟨z1, rfl⟩ := key 1 c1 (by omega) rfl
  obtain ⟨z2, rfl⟩ := key 2 c2 (by omega) rfl
  obtain ⟨z3, rfl⟩ := key 3 c3 (by omega) rfl
  obtain ⟨z4, rfl⟩ := key 4 c4 (by omega) rfl
  obtain ⟨z5, rfl⟩ := key 5 c5 (by omega) rfl
  exact ⟨fun k => [z0, z1, z2, z3, z4, z5].getD k 0, rfl⟩
theorem open_bytes {base b0 : Nat} {held : Bool} {r : Reach} {v : Value} {d : DataW H} {q : List MemPlace} {sp : Nat → Bool}
    (hv : Value.okWide Try.prog W r b0 45 v) (h : DataW.Trod enc Try.prog W base sp held 45 v d q) :
    ∃ l : List Nat, HoldsB W W.heap.size v l := by
  obtain ⟨a1, len1, cap1, rfl⟩ := okWide_slice Try.underlying45 hv
  obtain ⟨fuel, hf⟩ := h
  rcases open_ints Try.underlying45 Try.underlying5 Try.cellsByte hf with ⟨hcs, hx⟩ | ⟨a, len, cap, zs, hcs, _, hl, hm, hz, hx, hcell, hwz⟩
  · simp [Value.cells] at hcs
    obtain ⟨rfl, rfl, rfl⟩ := hcs
    exact ⟨[], Or.inl ⟨_, _, rfl, rfl⟩⟩
  · simp [Value.cells] at hcs
    obtain ⟨rfl, rfl, rfl⟩ := hcs
    have hlm : len1 ≤ zs.length := by rw [hz]; split <;> omega
    by_cases h0 : len1 = 0
    · subst h0; exact ⟨[], Or.inl ⟨_, _, rfl, rfl⟩⟩
    obtain ⟨ab, ao, spot⟩ := a
    have hspot : spot = none := by simpa [Addr.add] using World.cell?_spot (hcell 0 (by omega))
    subst hspot
    simp only [Addr.add_lit] at hcell
    have hlt : ab < W.heap.size := block_lt (hcell 0 (by omega))
    refine ⟨(zs.take len1).map Int.toNat, Or.inr ⟨ab, ao, cap1, by simp; omega, hlt, by simp; omega, hm, ?_⟩⟩
    intro i x hx
    rw [List.getElem?_map] at hx
    by_cases hi : i < len1
    · have e : zs[i]? = some (zs.getD i 0) := by rw [List.getD_eq_getElem?_getD, List.getElem?_eq_getElem (by omega)]; rfl
      rw [List.getElem?_take_of_lt hi, e] at hx
      simp only [Option.map_some, Option.some.injEq] at hx
      have hb : 0 ≤ zs.getD i 0 ∧ zs.getD i 0 < 256 := by
        have := range_u8 hwz i
        rw [List.getD_eq_getElem?_getD]
        omega
      subst hx
      refine ⟨by omega, ?_⟩
      rw [hcell i (by omega), Int.toNat_of_nonneg hb.1]
    · rw [List.getElem?_eq_none (by simp; omega)] at hx
      cases hx
end
theorem law_own : ownKnob Try.prog.godebug = none := by kernel_rfl
theorem law_laidOut : laidOutB Try.prog = true := by kernel_rfl
end Go.Proofs.Ytkobjcbcmbecfaa
