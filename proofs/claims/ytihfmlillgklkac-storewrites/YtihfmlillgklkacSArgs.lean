/-
  Arguments opened: bytes, as they lie there.
-/
import Derived.Test.YtihfmlillgklkacSWritesP
import Derived.WalkKit
import Derived.ProofKit
import Derived.OpenShut
import Derived.ShutString
import Derived.ChangeOld
import Derived.Deep.Slices
import Derived.SizedLaws
namespace Go.Proofs.Ytihfmlillgklkac
open Go.ChangeShapes Go.WideShapes Go.ChangeAt Go.RowKit Go.Deep
theorem Try.cellsByte : Try.prog.cellsOf 5 = 1 := by kernel_rfl
theorem Try.bytesByte : Try.prog.bytesOf 5 = 1 := by kernel_rfl
theorem block_lt {w : World} {a : Addr} {v : Value} (h : w.cell? a = some v) : a.block < w.heap.size := by
  rcases Nat.lt_or_ge a.block w.heap.size with h' | h'
  · exact h'
  · simp [World.cell?, Array.getElem?_eq_none h'] at h
section
variable {H : Type} {enc : TypeId × Value → H} {W : World}
set_option maxRecDepth 100000 in
theorem open_bytes {base b0 : Nat} {held : Bool} {r : Reach} {v : Value} {d : DataW H} {q : List MemPlace} {sp : Nat → Bool}
    (hv : Value.okWide Try.prog W r b0 22 v) (h : DataW.Trod enc Try.prog W base sp held 22 v d q) :
    ∃ l : List UInt8, Bytes W (fun x => x < W.heap.size) v l ∧ (l = [] ∨ ∃ es spare, d = .slice es spare ∧ es.length = l.length) := by
  obtain ⟨a1, len1, cap1, rfl⟩ := okWide_slice Try.underlying22 hv
  obtain ⟨fuel, hf⟩ := h
  rcases open_ints Try.underlying22 Try.underlying5 Try.cellsByte hf with ⟨hcs, hx⟩ | ⟨a, len, cap, zs, hcs, _, hl, hm, hz, hx, hcell, hwz⟩
  · simp [Value.cells] at hcs
    obtain ⟨rfl, rfl, rfl⟩ := hcs
    exact ⟨[], Row.nil _ _ _ _ _, Or.inl rfl⟩
  · simp [Value.cells] at hcs
    obtain ⟨rfl, rfl, rfl⟩ := hcs
    have hlm : len1 ≤ zs.length := by rw [hz]; split <;> omega
    by_cases h0 : len1 = 0
    · subst h0; exact ⟨[], Row.nil _ _ _ _ _, Or.inl rfl⟩
    obtain ⟨ab, ao, spot⟩ := a
    have hspot : spot = none := by simpa [Addr.add] using World.cell?_spot (hcell 0 (by omega))
    subst hspot
    simp only [Addr.add_lit] at hcell
    have hlt : ab < W.heap.size := block_lt (hcell 0 (by omega))
    refine ⟨(zs.take len1).map fun z => UInt8.ofNat z.toNat, Or.inr ⟨ab, ao, cap1, by simp; omega, hlt, by simp; omega, hm, ?_⟩, Or.inr ⟨_, _, (Prod.mk.inj hx).1, by simp [lits]⟩⟩
    intro i cs hi j u hj
    rw [List.getElem?_map, List.getElem?_map] at hi
    by_cases hil : i < len1
    · have e : zs[i]? = some (zs.getD i 0) := by rw [List.getD_eq_getElem?_getD, List.getElem?_eq_getElem (by omega)]; rfl
      rw [List.getElem?_take_of_lt hil, e] at hi
      simp only [Option.map_some, Option.some.injEq] at hi
      have hb : 0 ≤ zs.getD i 0 ∧ zs.getD i 0 < 256 := by
        have := range_u8 hwz i
        rw [List.getD_eq_getElem?_getD]
        omega
      subst hi
      have hc := hcell i (by omega)
      generalize zs.getD i 0 = z at hb hc hj
      match j, hj with
      | 0, hj =>
        simp [byteC] at hj
        subst hj
        rw [Nat.mul_one, Nat.add_zero, hc]
        congr 2
        omega
      | j + 1, hj => simp [byteC] at hj
    · rw [List.getElem?_eq_none (by simp; omega)] at hi
      cases hi
end
theorem law_own : ownKnob Try.prog.godebug = none := by kernel_rfl
theorem law_laidOut : laidOutB Try.prog = true := by kernel_rfl
end Go.Proofs.Ytihfmlillgklkac
