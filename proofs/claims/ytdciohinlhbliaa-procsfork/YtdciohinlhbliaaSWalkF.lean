
/-
  store.isObject, store.place, walked.
-/
import Derived.Test.YtdciohinlhbliaaSWalkE
namespace Go.Proofs.Ytdciohinlhbliaa
open Go.RowKit
theorem Objs.open {w : World} {S : Nat → Prop} {v : Value} {L : List Sp.Ob} (h : Objs w S v L) {k : Nat} {x : Sp.Ob} (hx : L[k]? = some x) :
    ∃ b o c s, v = .slice (some ⟨b, o, none⟩) L.length c ∧ S b ∧ L.length ≤ c ∧ c ≤ maxLen ∧ Lists w S (s, x) ∧ w.cell? ⟨b, o + k * 9, none⟩ = some (.int .i64 x.kind) ∧ w.cell? ⟨b, o + k * 9 + 1, none⟩ = some (.slice s.d.a s.d.n s.d.c) ∧ w.cell? ⟨b, o + k * 9 + 2, none⟩ = some (.slice s.e.a s.e.n s.e.c) ∧ w.cell? ⟨b, o + k * 9 + 3, none⟩ = some (.string x.target) ∧ w.cell? ⟨b, o + k * 9 + 4, none⟩ = some (.int .i64 x.peer) ∧ w.cell? ⟨b, o + k * 9 + 5, none⟩ = some (.slice s.q.a s.q.n s.q.c) ∧ w.cell? ⟨b, o + k * 9 + 6, none⟩ = some (.int .i64 x.proc) ∧ w.cell? ⟨b, o + k * 9 + 7, none⟩ = some (.int .i64 x.links) ∧ w.cell? ⟨b, o + k * 9 + 8, none⟩ = some (.int .i64 x.up) := by
  obtain ⟨ts, rfl, hr, hl⟩ := h
  rw [List.getElem?_map] at hx
  cases ht : ts[k]? with
  | none => rw [ht] at hx; cases hx
  | some t =>
    rw [ht] at hx
    simp at hx
    subst hx
    obtain ⟨s, x⟩ := t
    have hlt := (List.getElem?_eq_some_iff.1 ht).1
    obtain ⟨b, o, c, h1, h2, h3, h4, h5⟩ := hr.some (by rw [List.length_map]; omega)
    rw [List.length_map] at h1 h3 ⊢
    exact ⟨b, o, c, s, h1, h2, h3, h4, hl _ (List.mem_of_getElem? ht), obj_cells h5 ht⟩
theorem Objs.form {w : World} {S : Nat → Prop} {v : Value} {L : List Sp.Ob} (h : Objs w S v L) : ∃ a c, v = .slice a L.length c ∧ L.length ≤ maxLen := by
  obtain ⟨ts, rfl, hr, hl⟩ := h
  obtain ⟨a, c, h1, h2⟩ := hr.form
  rw [List.length_map] at h1 h2 ⊢
  exact ⟨a, c, h1, h2⟩
theorem objAt_neg {L : List Sp.Ob} {k : Int} (h : ¬ 0 ≤ k) : Sp.objAt L k = none := by unfold Sp.objAt; rw [if_neg h]
theorem objAt_nat (L : List Sp.Ob) (k : Nat) : Sp.objAt L (k : Int) = (L[k]?).filter (fun o => o.kind != 0) := by unfold Sp.objAt; rw [if_pos (by omega), Int.toNat_natCast]
theorem placeFrom_drop (name : ByteArray) (es : List Sp.Ent) (k : Nat) (x : Sp.Ent) (hx : es[k]? = some x) : Sp.placeFrom name (es.drop k) k = if Sp.eqB x.name name = true then (k : Int) else Sp.placeFrom name (es.drop (k + 1)) (k + 1) := by
  obtain ⟨hk, rfl⟩ := List.getElem?_eq_some_iff.1 hx
  rw [List.drop_eq_getElem_cons hk, Sp.placeFrom]
/-- A function of entries, with what it has captured, asks for that name. -/
def EPred (n : Nat) (caps : Array Value) (w : World) (name : ByteArray) : Prop :=
  ∀ (W : World) (x : Sp.Ent), Below w.heap.size w W → Calls Try.prog n (#[.agg #[.string x.name, .int .i64 x.obj]] ++ caps) W fun e w' => e = .returned (.bool (Sp.eqB x.name name)) ∧ Below W.heap.size W w'
end Go.Proofs.Ytdciohinlhbliaa
