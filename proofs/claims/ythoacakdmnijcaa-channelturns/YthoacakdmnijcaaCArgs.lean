/-
  Arguments opened: capabilities, messages, texts.
-/
import Derived.Test.YthoacakdmnijcaaCPlain
import Derived.WalkKit
import Derived.ProofKit
import Derived.OpenShut
import Derived.ShutString
import Derived.ChangeOld
import Derived.Deep.Slices
import Derived.Deep.SlicePairs
import Derived.Deep.Strs
import Derived.SizedLaws
namespace Go.Proofs.Ythoacakdmnijcaa
open Go.ChangeShapes Go.WideShapes Go.ChangeAt Go.RowKit Go.Deep
def txtC (s : ByteArray) : List Value := [.string s]
theorem Try.cellsCapC : Try.prog.cellsOf 47 = 2 := by kernel_rfl
theorem Try.cellsIntC : Try.prog.cellsOf 3 = 1 := by kernel_rfl
theorem Try.cellsBoolC : Try.prog.cellsOf 4 = 1 := by kernel_rfl
theorem Try.cellsByteC : Try.prog.cellsOf 5 = 1 := by kernel_rfl
theorem Try.cellsBytesC : Try.prog.cellsOf 22 = 1 := by kernel_rfl
theorem Try.cellsMsgC : Try.prog.cellsOf 49 = 4 := by kernel_rfl
theorem Try.cellsStrC : Try.prog.cellsOf 9 = 1 := by kernel_rfl
theorem cblock_lt {w : World} {a : Addr} {v : Value} (h : w.cell? a = some v) : a.block < w.heap.size := by
  rcases Nat.lt_or_ge a.block w.heap.size with h' | h'
  · exact h'
  · simp [World.cell?, Array.getElem?_eq_none h'] at h
section
variable {H : Type} {enc : TypeId × Value → H} {W : World}
set_option maxRecDepth 100000 in
theorem ctrod_cap {base : Nat} {sp : Nat → Bool} {held : Bool} {fuel : Nat} {cs : List Value} {x : DataW H × List MemPlace} (h : DataW.trod enc Try.prog W base sp held fuel 47 cs = some x) : ∃ p q : Int, cs = [.int .i64 p, .int .i64 q] := by
  obtain ⟨y0, y1, n, -, hl, t0, t1⟩ := trod_struct2 Try.underlying47 h
  rw [Try.cellsCapC] at hl
  match cs, hl with
  | [c0, c1], _ =>
    rw [Try.cellsIntC] at t0 t1
    obtain ⟨z0, hz0, _, _⟩ := DataW.trod_int Try.underlying3 t0
    obtain ⟨z1, hz1, _, _⟩ := DataW.trod_int Try.underlying3 t1
    simp at hz0 hz1
    exact ⟨z0, z1, by rw [hz0, hz1]⟩
set_option maxRecDepth 100000 in
theorem copen_cap {base b0 : Nat} {sp : Nat → Bool} {held : Bool} {r : Reach} {v : Value} {d : DataW H} {p : List MemPlace}
    (hv : Value.okWide Try.prog W r b0 47 v) (h : DataW.Trod enc Try.prog W base sp held 47 v d p) :
    ∃ a b : Int, v = .agg #[.int .i64 a, .int .i64 b] := by
  obtain ⟨cs, rfl, hsz⟩ := okWide_struct Try.underlying47 hv
  obtain ⟨fuel, hf⟩ := h
  obtain ⟨a, b, hab⟩ := ctrod_cap hf
  refine ⟨a, b, ?_⟩
  obtain ⟨l⟩ := cs
  simp [Value.cells] at hab
  rw [hab]
set_option maxRecDepth 100000 in
theorem ctrod_bytes {base : Nat} {sp : Nat → Bool} {held : Bool} {fuel : Nat} {cs : List Value} {x : DataW H × List MemPlace} (hf : DataW.trod enc Try.prog W base sp held fuel 22 cs = some x) :
    ∃ (s : Sl) (l : List UInt8), cs = [.slice s.a s.n s.c] ∧ Bytes W (fun x => x < W.heap.size) (.slice s.a s.n s.c) l := by
  rcases open_ints Try.underlying22 Try.underlying5 Try.cellsByteC hf with ⟨hcs, hx⟩ | ⟨a, len1, cap1, zs, hcs, _, hl, hm, hz, hx, hcell, hwz⟩
  · exact ⟨⟨none, 0, 0⟩, [], hcs, Row.nil _ _ _ _ _⟩
  · have hlm : len1 ≤ zs.length := by rw [hz]; split <;> omega
    by_cases h0 : len1 = 0
    · subst h0; exact ⟨⟨some a, 0, cap1⟩, [], hcs, Row.nil _ _ _ _ _⟩
    obtain ⟨ab, ao, spot⟩ := a
    have hspot : spot = none := by simpa [Addr.add] using World.cell?_spot (hcell 0 (by omega))
    subst hspot
    simp only [Addr.add_lit] at hcell
    have hlt : ab < W.heap.size := cblock_lt (hcell 0 (by omega))
    refine ⟨⟨some ⟨ab, ao, none⟩, len1, cap1⟩, (zs.take len1).map fun z => UInt8.ofNat z.toNat, hcs, Or.inr ⟨ab, ao, cap1, by simp; omega, hlt, by simp; omega, hm, ?_⟩⟩
    intro i cs hi j u hj
    rw [List.getElem?_map, List.getElem?_map] at hi
    by_cases hil : i < len1
    · have e : zs[i]? = some (zs.getD i 0) := by rw [List.getD_eq_getElem?_getD, List.getElem?_eq_getElem (by omega)]; rfl
      rw [List.getElem?_take_of_lt hil, e] at hi
      simp only [Option.map_some, Option.some.injEq] at hi
      have hb : 0 ≤ zs.getD i 0 ∧ zs.getD i 0 < 256 := by
        have := range_u8 hwz i
        rw [List.getD_eq_getElem?_getD]
        omega
      subst hi
      have hc := hcell i (by omega)
      generalize zs.getD i 0 = z at hb hc hj
      match j, hj with
      | 0, hj =>
        simp [byteC] at hj
        subst hj
        rw [Nat.mul_one, Nat.add_zero, hc]
        congr 2
        omega
      | j + 1, hj => simp [byteC] at hj
    · rw [List.getElem?_eq_none (by simp; omega)] at hi
      cases hi
set_option maxRecDepth 100000 in
theorem copen_bytes {base b0 : Nat} {held : Bool} {r : Reach} {v : Value} {d : DataW H} {q : List MemPlace} {sp : Nat → Bool}
    (hv : Value.okWide Try.prog W r b0 22 v) (h : DataW.Trod enc Try.prog W base sp held 22 v d q) :
    ∃ l : List UInt8, Bytes W (fun x => x < W.heap.size) v l := by
  obtain ⟨a1, len1, cap1, rfl⟩ := okWide_slice Try.underlying22 hv
  obtain ⟨fuel, hf⟩ := h
  obtain ⟨s, l, hcs, hb⟩ := ctrod_bytes hf
  simp [Value.cells] at hcs
  obtain ⟨rfl, rfl, rfl⟩ := hcs
  exact ⟨l, hb⟩
set_option maxRecDepth 100000 in
theorem copen_msg {base b0 : Nat} {sp : Nat → Bool} {held : Bool} {r : Reach} {v : Value} {d : DataW H} {p : List MemPlace}
    (hv : Value.okWide Try.prog W r b0 49 v) (h : DataW.Trod enc Try.prog W base sp held 49 v d p) :
    ∃ t : Sl × Sp.Msg, v = msgV t ∧ Bytes W (fun x => x < W.heap.size) (.slice t.1.a t.1.n t.1.c) t.2.data := by
  obtain ⟨cs, rfl, hsz⟩ := okWide_struct Try.underlying49 hv
  obtain ⟨fuel, hf⟩ := h
  obtain ⟨y0, y1, y2, n, -, hl, t0, t1, t2⟩ := trod_struct3 Try.underlying49 hf
  rw [Try.cellsMsgC] at hl
  obtain ⟨l⟩ := cs
  have hl' : l.length = 4 := by simpa [Value.cells] using hl
  match l, hl' with
  | [c0, c1, c2, c3], _ =>
    rw [Try.cellsBytesC] at t0
    rw [Try.cellsBoolC] at t1
    rw [Try.cellsCapC] at t2
    obtain ⟨s, d, hs, hb⟩ := ctrod_bytes t0
    obtain ⟨z, hz, _⟩ := DataW.trod_bool Try.underlying4 t1
    obtain ⟨a, b, hab⟩ := ctrod_cap t2
    simp [Value.cells] at hs hz hab
    refine ⟨(s, ⟨d, z, a, b⟩), ?_, hb⟩
    unfold msgV
    rw [hs, hz, hab.1, hab.2]
set_option maxRecDepth 100000 in
theorem copen_texts {base b0 : Nat} {held : Bool} {r : Reach} {v : Value} {d : DataW H} {q : List MemPlace} {sp : Nat → Bool}
    (hv : Value.okWide Try.prog W r b0 60 v) (h : DataW.Trod enc Try.prog W base sp held 60 v d q) :
    ∃ xs : List ByteArray, Row W (fun x => x < W.heap.size) 1 v (xs.map txtC) ∧ ∀ x ∈ xs, x.size ≤ maxLen := by
  obtain ⟨a1, len1, cap1, rfl⟩ := okWide_slice Try.underlying60 hv
  obtain ⟨fuel, hf⟩ := h
  rcases open_strs Try.underlying60 Try.underlying9 Try.cellsStrC hf with ⟨hcs, hx⟩ | ⟨a, len, cap, m, S, hcs, _, hl, hm, hmm, hx, hel⟩
  · simp [Value.cells] at hcs
    obtain ⟨rfl, rfl, rfl⟩ := hcs
    exact ⟨[], Row.nil _ _ _ _ _, fun x hx => by simp at hx⟩
  · simp [Value.cells] at hcs
    obtain ⟨rfl, rfl, rfl⟩ := hcs
    have hlm : len1 ≤ m := by rw [hmm]; split <;> omega
    by_cases h0 : len1 = 0
    · subst h0; exact ⟨[], Row.nil _ _ _ _ _, fun x hx => by simp at hx⟩
    have hcell : ∀ i, i < len1 → W.cell? (a.add i) = some (.string (S i)) := fun i hi => (hel i (by omega)).1
    obtain ⟨ab, ao, spot⟩ := a
    have hspot : spot = none := by simpa [Addr.add] using World.cell?_spot (hcell 0 (by omega))
    subst hspot
    simp only [Addr.add_lit] at hcell
    have hlt : ab < W.heap.size := cblock_lt (hcell 0 (by omega))
    refine ⟨(List.range len1).map S, Or.inr ⟨ab, ao, cap1, by simp, hlt, by simp; omega, hm, ?_⟩, ?_⟩
    · intro i cs hi j u hj
      rw [List.map_map, List.getElem?_map] at hi
      by_cases hil : i < len1
      · rw [List.getElem?_range hil] at hi
        simp at hi
        subst hi
        match j, hj with
        | 0, hj =>
          simp [txtC] at hj
          subst hj
          rw [Nat.mul_one, Nat.add_zero]
          exact hcell i hil
        | j + 1, hj => simp [txtC] at hj
      · rw [List.getElem?_eq_none (by simp; omega)] at hi
        cases hi
    · intro x hx
      obtain ⟨i, hi, rfl⟩ := List.mem_map.1 hx
      exact (hel i (by have := List.mem_range.1 hi; omega)).2
end
theorem claw_own : ownKnob Try.prog.godebug = none := by kernel_rfl
theorem claw_laidOut : laidOutB Try.prog = true := by kernel_rfl
end Go.Proofs.Ythoacakdmnijcaa
