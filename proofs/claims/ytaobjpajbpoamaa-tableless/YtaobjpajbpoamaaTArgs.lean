/-
  Arguments opened: tables, capabilities.
-/
import Derived.Test.YtaobjpajbpoamaaTPlain
import Derived.WalkKit
import Derived.ProofKit
import Derived.OpenShut
import Derived.ShutString
import Derived.ChangeOld
import Derived.Deep.Slices
import Derived.Deep.SlicePairs
import Derived.SizedLaws
namespace Go.Proofs.Ytaobjpajbpoamaa
open Go.ChangeShapes Go.WideShapes Go.ChangeAt Go.RowKit Go.Deep
theorem Try.cellsSlotT : Try.prog.cellsOf 60 = 3 := by kernel_rfl
theorem Try.cellsCapT : Try.prog.cellsOf 58 = 2 := by kernel_rfl
theorem Try.cellsIntT : Try.prog.cellsOf 3 = 1 := by kernel_rfl
theorem Try.cellsBoolT : Try.prog.cellsOf 4 = 1 := by kernel_rfl
theorem Try.bytesSlotT : Try.prog.bytesOf 60 = 24 := by kernel_rfl
theorem tblock_lt {w : World} {a : Addr} {v : Value} (h : w.cell? a = some v) : a.block < w.heap.size := by
  rcases Nat.lt_or_ge a.block w.heap.size with h' | h'
  · exact h'
  · simp [World.cell?, Array.getElem?_eq_none h'] at h
section
variable {H : Type} {enc : TypeId × Value → H} {W : World}
set_option maxRecDepth 100000 in
theorem trod_cap {base : Nat} {sp : Nat → Bool} {held : Bool} {fuel : Nat} {cs : List Value} {x : DataW H × List MemPlace} (h : DataW.trod enc Try.prog W base sp held fuel 58 cs = some x) : ∃ p q : Int, cs = [.int .i64 p, .int .i64 q] := by
  obtain ⟨y0, y1, n, -, hl, t0, t1⟩ := trod_struct2 Try.underlying58 h
  rw [Try.cellsCapT] at hl
  match cs, hl with
  | [c0, c1], _ =>
    rw [Try.cellsIntT] at t0 t1
    obtain ⟨z0, hz0, _, _⟩ := DataW.trod_int Try.underlying3 t0
    obtain ⟨z1, hz1, _, _⟩ := DataW.trod_int Try.underlying3 t1
    simp at hz0 hz1
    exact ⟨z0, z1, by rw [hz0, hz1]⟩
set_option maxRecDepth 100000 in
theorem trod_slot {base : Nat} {sp : Nat → Bool} {held : Bool} {fuel : Nat} {cs : List Value} {x : DataW H × List MemPlace} (h : DataW.trod enc Try.prog W base sp held fuel 60 cs = some x) : ∃ y : Tb.Slt, cs = tC y := by
  obtain ⟨y0, y1, n, -, hl, t0, t1⟩ := trod_struct2 Try.underlying60 h
  rw [Try.cellsSlotT] at hl
  match cs, hl with
  | [c0, c1, c2], _ =>
    rw [Try.cellsBoolT] at t0
    rw [Try.cellsCapT] at t1
    obtain ⟨z0, hz0, _⟩ := DataW.trod_bool Try.underlying4 t0
    obtain ⟨p, q, hpq⟩ := trod_cap t1
    simp at hz0 hpq
    exact ⟨⟨z0, p, q⟩, by rw [hz0, hpq.1, hpq.2]; rfl⟩
set_option maxRecDepth 100000 in
theorem open_cap {base b0 : Nat} {sp : Nat → Bool} {held : Bool} {r : Reach} {v : Value} {d : DataW H} {p : List MemPlace}
    (hv : Value.okWide Try.prog W r b0 58 v) (h : DataW.Trod enc Try.prog W base sp held 58 v d p) :
    ∃ a b : Int, v = .agg #[.int .i64 a, .int .i64 b] := by
  obtain ⟨cs, rfl, hsz, _⟩ : ∃ cs, v = .agg cs ∧ cs.size = Try.prog.cellsOf 58 ∧ Row.okWide Try.prog W r b0 58 cs := by
    simpa [Value.okWide, Try.underlying58] using hv
  obtain ⟨fuel, hf⟩ := h
  obtain ⟨a, b, hab⟩ := trod_cap hf
  refine ⟨a, b, ?_⟩
  obtain ⟨l⟩ := cs
  simp [Value.cells] at hab
  rw [hab]
set_option maxRecDepth 100000 in
theorem open_table {base b0 : Nat} {held : Bool} {r : Reach} {v : Value} {d : DataW H} {q : List MemPlace} {sp : Nat → Bool}
    (hv : Value.okWide Try.prog W r b0 56 v) (h : DataW.Trod enc Try.prog W base sp held 56 v d q) :
    ∃ l : List Tb.Slt, Tab W (fun x => x < W.heap.size) v l ∧ (l = [] ∨ ∃ es spare, d = .slice es spare ∧ es.length = l.length) := by
  obtain ⟨a1, len1, cap1, rfl⟩ := okWide_slice Try.underlying56 hv
  obtain ⟨fuel, hf⟩ := h
  have hf' : DataW.trod enc Try.prog W base sp held fuel 56 [.slice a1 len1 cap1] = some (d, q) := hf
  rcases open_slice Try.underlying56 hf' with ⟨hcs, hx⟩ | ⟨a, len, cap, m, n, D, Pl, hcs, _, hl, hm, hmm, hx, hel⟩
  · simp at hcs
    obtain ⟨rfl, rfl, rfl⟩ := hcs
    exact ⟨[], Row.nil _ _ _ _ _, Or.inl rfl⟩
  · simp at hcs
    obtain ⟨rfl, rfl, rfl⟩ := hcs
    have hlm : len1 ≤ m := by rw [hmm]; split <;> omega
    by_cases h0 : len1 = 0
    · subst h0; exact ⟨[], Row.nil _ _ _ _ _, Or.inl rfl⟩
    have each : ∀ i, i < len1 → ∃ y : Tb.Slt, ∀ j u, (tC y)[j]? = some u → W.cell? (a.add (i * 3 + j)) = some u := fun i hi => by
      obtain ⟨cs', h1, h2⟩ := hel i (by omega)
      obtain ⟨y, rfl⟩ := trod_slot h2
      rw [Try.cellsSlotT] at h1
      obtain ⟨_, hlen, hcell⟩ := World.cells?_some h1
      refine ⟨y, fun j u hj => ?_⟩
      have hjl := (List.getElem?_eq_some_iff.1 hj).1
      have e := hcell j (by rw [← hlen]; exact hjl)
      rw [add_add] at e
      rw [e]
      exact hj
    have hin : Inhabited Tb.Slt := ⟨⟨false, 0, 0⟩⟩
    obtain ⟨I, hI⟩ := choose_lt each
    obtain ⟨ab, ao, spot⟩ := a
    have hspot : spot = none := by simpa [Addr.add] using World.cell?_spot (hI 0 (by omega) 0 _ rfl)
    subst hspot
    simp only [Addr.add_lit] at hI
    have hlt : ab < W.heap.size := tblock_lt (hI 0 (by omega) 0 _ rfl)
    refine ⟨(List.range len1).map I, Or.inr ⟨ab, ao, cap1, by simp, hlt, by simp; omega, hm, ?_⟩, Or.inr ⟨_, _, (Prod.mk.inj hx).1, by simp⟩⟩
    intro i cs hi j u hj
    rw [List.getElem?_map, List.getElem?_map] at hi
    by_cases hil : i < len1
    · rw [List.getElem?_range hil] at hi
      simp at hi
      subst hi
      rw [Nat.add_assoc]
      exact hI i hil j u hj
    · rw [List.getElem?_eq_none (by simp; omega)] at hi
      cases hi
end
theorem tlaw_own : ownKnob Try.prog.godebug = none := by kernel_rfl
theorem tlaw_laidOut : laidOutB Try.prog = true := by kernel_rfl
end Go.Proofs.Ytaobjpajbpoamaa
