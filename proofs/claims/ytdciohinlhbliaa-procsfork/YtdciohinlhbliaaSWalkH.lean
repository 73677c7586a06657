
/-
  store.Read, walked.
-/
import Derived.Test.YtdciohinlhbliaaSWalkG
namespace Go.Proofs.Ytdciohinlhbliaa
open Go.RowKit
namespace Sp
def noFile (k : Int) : Int := if k = 1 then 0 else if k = 2 then 12 else 8
def readErr (o : Ob) (at_ n : Int) : Int := if noFile o.kind ≠ 0 then noFile o.kind else if at_ < 0 ∨ n < 0 then 3 else 0
def read (o : Ob) (at_ n : Int) : List UInt8 := if readErr o at_ n = 0 then (o.data.drop at_.toNat).take n.toNat else []
def writeErr (o : Ob) (at_ : Int) (b : List UInt8) : Int := if noFile o.kind ≠ 0 then noFile o.kind else if at_ < 0 then 3 else if at_ > 60 - (b.length : Int) then 15 else 0
end Sp
theorem Row.nil' (w : World) (S : Nat → Prop) (k : Nat) (a : Option Addr) (n c : Nat) (h : n = 0) : Row w S k (.slice a n c) [] := by subst h; exact Row.nil _ _ _ _ _
theorem Bytes.sub {w : World} {S : Nat → Prop} {b o c : Nat} {d : List UInt8} (h : Bytes w S (.slice (some ⟨b, o, none⟩) d.length c) d) (p n m c' : Nat) (hm : m = ((d.drop p).take n).length) (hc : m ≤ c') (hc' : c' ≤ maxLen) : Bytes w S (.slice (some ⟨b, o + p, none⟩) m c') ((d.drop p).take n) := by
  rcases h with ⟨a, c, e, hn⟩ | ⟨b', o', c0, e, hS, h3, h4, h5⟩
  · rw [List.map_eq_nil_iff.1 hn] at hm ⊢
    simp at hm ⊢
    subst hm
    exact Row.nil _ _ _ _ _
  · obtain ⟨h1, -, -⟩ := Value.slice.inj e
    obtain ⟨rfl, rfl, -⟩ := Addr.mk.inj (Option.some.inj h1)
    subst hm
    refine Or.inr ⟨b, o + p, c', by rw [List.length_map], hS, by rw [List.length_map]; exact hc, hc', fun i cs hi j u hj => ?_⟩
    rw [List.getElem?_map] at hi
    cases hx : ((d.drop p).take n)[i]? with
    | none => rw [hx] at hi; cases hi
    | some x =>
      rw [hx] at hi
      simp at hi
      subst hi
      rw [List.getElem?_take] at hx
      split at hx
      · rw [List.getElem?_drop] at hx
        have := h5 (p + i) (byteC x) (by rw [List.getElem?_map, hx]; rfl) j u hj
        rw [show o + p + i * 1 + j = o + (p + i) * 1 + j by omega]
        exact this
      · cases hx
end Go.Proofs.Ytdciohinlhbliaa
