/-
  A set of ints as a map of bools that a call made.
-/
import Derived.Test.YtkikghdcnejjfabGPlain
import Derived.Maps.Own
import Derived.Maps.OwnSet
import Derived.Maps.Views
import Derived.Carry
namespace Go.Proofs.Ytkikghdcnejjfab
open Go.RowKit Go.Maps
theorem plainElem_bool_inv {H : Type} {P : Program} {e : TypeId} (he : P.underlying e = some .bool) {v : Value} {z : DataW H × List MemPlace} (h : plainElem P e v = some z) : ∃ x, v = .bool x ∧ z = (.lit (.bool x), []) := by
  unfold plainElem at h
  rw [he] at h
  split at h <;> simp_all
theorem keyI : Keyed Try.prog 3 := int_keyed Try.underlying3
theorem zeroB (w : World) : (zeroValue 4).run Try.prog w = .ok (.bool false) w := by kernel_rfl
/-- Block g is a map of bools that says true of just the numbers of ks. -/
def SetIs (w : World) (g n : Nat) (ks : List Int) : Prop :=
  ∃ D : DataW Unit, w.ownsMap Try.prog 3 (plainElem Try.prog 4) g n D ∧ ∀ c : Int, D.atKey (.int .i64 c) (.lit (.bool false)) = .lit (.bool (decide (c ∈ ks)))
theorem SetIs.made (w : World) : SetIs (w.alloc (.map #[] 0)) w.heap.size 0 [] := ⟨_, World.ownsMap_made _ _ _ _, fun c => by simp [DataW.atKey]⟩
theorem SetIs.look {w : World} {g n : Nat} {ks : List Int} (h : SetIs w g n ks) (c : Int) (hc : (Lit.int .i64 c).wf = true) :
    (Instr.lookup 50 (.map (some g)) (.int .i64 c) false).run Try.prog w = .ok (.bool (decide (c ∈ ks))) w := by
  obtain ⟨D, hD, hat⟩ := h
  obtain ⟨v, ps, hrun, hv⟩ := hD.lookup keyI Try.underlying50 (zeroB w) (plainElem_bool Try.underlying4 false) (keyOf_int_mk Try.underlying3 hc)
  rw [hat c] at hv
  obtain ⟨x, rfl, hx⟩ := plainElem_bool_inv Try.underlying4 hv
  simp only [Prod.mk.injEq, DataW.lit.injEq, Lit.bool.injEq] at hx
  rw [hrun, hx.1]
theorem SetIs.lt {w : World} {g n : Nat} {ks : List Int} (h : SetIs w g n ks) : g < w.heap.size := by obtain ⟨D, hD, _⟩ := h; exact hD.lt
theorem SetIs.on {w w' : World} {g n : Nat} {ks : List Int} (h : SetIs w g n ks) {B : Nat} (hb : Below B w w') (hg : g < B) : SetIs w' g n ks := by
  obtain ⟨D, ⟨es, clock, he, hf⟩, hat⟩ := h
  exact ⟨D, ⟨es, clock, by rw [hb.block g hg]; exact he, hf⟩, hat⟩
/-- 'had[c] = true'. -/
theorem wpList_setPut {w : World} {ops : Array Oper} {rest : List Oper} {o : Oper} {a : Act} {Q : Exit → Act → World → Prop} (hgd : o.guard = none) (m x v : Operand) (hop : o.op = Op.mapUpdate 50 m x v)
    (g n : Nat) (ks : List Int) (hm : a.eval m = .map (some g)) (hs : SetIs w g n ks) (hn : n ≤ 1000) (c : Int) (hc : (Lit.int .i64 c).wf = true) (hx : a.eval x = .int .i64 c) (hv : a.eval v = .bool true)
    (h : ∀ w', SetIs w' g (n + 1) (c :: ks) → w.grownBy w' (some g) → wpList Try.prog ops Q rest (a.put o.dst undef) w') : wpList Try.prog ops Q (o :: rest) a w := by
  obtain ⟨D, hD, hat⟩ := hs
  have hkey := keyOf_int_mk (P := Try.prog) Try.underlying3 hc
  refine wpList_mapUpdate_own w hgd m x v 50 hop 3 4 keyI Try.underlying50 _ g n D hm hD (by unfold maxLen; omega) _ _ (.int .i64 c) hx hv hkey (.lit (.bool true)) [] (plainElem_bool Try.underlying4 true) fun w' h1 h2 => h w' ⟨_, h1, fun c' => ?_⟩ h2
  by_cases e : c' = c
  · subst e
    rw [atKey_put_same hD.isMap (keyI.key hkey)]
    simp
  · rw [atKey_put_other (by intro e'; cases e'; exact e rfl), hat c']
    simp [e]
end Go.Proofs.Ytkikghdcnejjfab
