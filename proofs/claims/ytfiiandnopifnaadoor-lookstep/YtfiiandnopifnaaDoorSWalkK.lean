
/-
  store.Make, walked.
-/
import Derived.Test.YtfiiandnopifnaaDoorSWalkJ
namespace Go.Proofs.YtfiiandnopifnaaDoor
open Go.RowKit
theorem freeFrom_drop (L : List Sp.Ob) (k : Nat) (x : Sp.Ob) (hx : L[k]? = some x) : Sp.freeFrom (L.drop k) k = if x.kind = 0 then (k : Int) else Sp.freeFrom (L.drop (k + 1)) (k + 1) := by
  obtain ⟨hk, rfl⟩ := List.getElem?_eq_some_iff.1 hx
  rw [List.drop_eq_getElem_cons hk, Sp.freeFrom]
theorem ownAll_lists {w : World} {lo : Nat} {ts : List (Sls × Sp.Ob)} {m : Nat → Nat} (h : OwnAll w lo ts m) : ∀ t ∈ ts, Lists w (fun b => lo ≤ b ∧ b < w.heap.size) t := by
  intro t ht
  obtain ⟨i, hi, rfl⟩ := List.getElem_of_mem ht
  have hl := h.2.2.2 i _ (List.getElem?_eq_getElem hi)
  have h0 := h.lo i
  have h1 := h.le (show i + 1 ≤ ts.length from hi)
  have h2 := h.2.2.1
  exact hl.lists.more fun b hb => ⟨by omega, by omega⟩
end Go.Proofs.YtfiiandnopifnaaDoor
