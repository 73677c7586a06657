
/-
  store.ownList: copies of lists.
-/
import Derived.Test.YtfiiandnopifnaaDoorSObj
namespace Go.Proofs.YtfiiandnopifnaaDoor
open Go.RowKit
theorem Tryd.infoByte : (Tryd.prog.info? 5).map (fun i => (i.zero, i.size, i.bytes)) = some (some (.int .u8 0), 1, 1) := by kernel_rfl
theorem Tryd.infoEnt : (Tryd.prog.info? 89).map (fun i => (i.zero, i.size, i.bytes)) = some (some (.agg #[.string ⟨#[]⟩, .int .i64 0]), 2, 24) := by kernel_rfl
theorem Tryd.infoMsg : (Tryd.prog.info? 77).map (fun i => (i.zero, i.size, i.bytes)) = some (some (.agg #[.slice none 0 0, .bool false, .int .i64 0, .int .i64 0]), 4, 48) := by kernel_rfl
theorem Tryd.infoObj : (Tryd.prog.info? 47).map (fun i => (i.zero, i.size, i.bytes)) = some (some (.agg #[.int .i64 0, .slice none 0 0, .slice none 0 0, .string ⟨#[]⟩, .int .i64 0, .slice none 0 0, .int .i64 0, .int .i64 0, .int .i64 0]), 9, 128) := by kernel_rfl
theorem below_none {w w' : World} (h : w.grownBy w' none) : Below w.heap.size w w' := (Below.refl _ _).grown h (Nat.le_refl _) (fun j hj => by cases hj)
theorem Mine.sl {w : World} {base k : Nat} {e : TypeId} {v : Value} {css : List (List Value)} (h : Mine w base e k v css) : ∃ s : Sl, v = .slice s.a s.n s.c := by
  obtain ⟨a, c, e, _⟩ := h.form
  exact ⟨⟨a, _, c⟩, e⟩
end Go.Proofs.YtfiiandnopifnaaDoor
