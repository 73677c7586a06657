
/-
  store.New, store.relink, walked.
-/
import Derived.Test.YtdciohinlhbliaaSWalkK
import Derived.Test.YtdciohinlhbliaaPWalkA
namespace Go.Proofs.Ytdciohinlhbliaa
open Go.RowKit
namespace Sp
def noEnter (L : List Ob) (dir : Int) (name : ByteArray) (obj : Int) : Int :=
  if (objAt L obj).isSome = false then 6 else if noDir L dir ≠ 0 then noDir L dir else match objAt L dir with
    | none => 6
    | some d => if d.links < 1 then 6 else if Pt.isName name.data.toList = false then 7 else if 0 ≤ place d.ents name then 7 else if 8 ≤ d.ents.length then 15 else 0
def linked (o : Ob) (more up : Int) : Ob := { o with links := o.links + more, up := if o.kind = 2 then up else o.up }
end Sp
theorem new_any (w : World) : Calls Try.prog 72 #[] w fun e w' => e = .returned (.slice (some ⟨w.heap.size, 0, none⟩) 1 1) ∧ Objs w' (fun b => w.heap.size ≤ b ∧ b < w'.heap.size) (.slice (some ⟨w.heap.size, 0, none⟩) 1 1) [⟨2, [], [], ⟨#[]⟩, -1, [], -1, 1, 0⟩] ∧ Below w.heap.size w w' := by
  go_enter Try.func72, Try.ntmps72
  go_wp2
  go_ret
  refine ⟨rfl, ⟨[(⟨nilSl, nilSl, nilSl⟩, ⟨2, [], [], ⟨#[]⟩, -1, [], -1, 1, 0⟩)], rfl, ?_, ?_⟩, (Below.refl _ _).alloc (Nat.le_refl _) _⟩
  · refine Or.inr ⟨w.heap.size, 0, 1, rfl, ⟨Nat.le_refl _, by simp⟩, Nat.le_refl _, by decide, fun i cs hi j u hj => ?_⟩
    match i, hi with
    | 0, hi =>
      simp at hi
      subst hi
      rw [(Blk.new w _ _).cell]
      simp only [Nat.zero_mul, Nat.zero_add]
      simpa [objC, nilSl] using hj
    | i + 1, hi => simp at hi
  · intro t ht
    simp at ht
    subst ht
    exact ⟨Row.nil _ _ _ _ _, Row.nil _ _ _ _ _, [], rfl, Row.nil _ _ _ _ _, fun t ht => by simp at ht⟩
theorem Mine.objs {w : World} {base g n c : Nat} {S : Nat → Prop} {ts : List (Sls × Sp.Ob)} (h : Mine w base 40 9 (.slice (some ⟨g, 0, none⟩) n c) (ts.map objC)) (hS : ∀ b, base ≤ b ∧ b < w.heap.size → S b) (hl : ∀ t ∈ ts, Lists w S t) : Objs w S (.slice (some ⟨g, 0, none⟩) n c) (ts.map Prod.snd) :=
  ⟨ts, rfl, (h.row (even_obj ts)).more hS, hl⟩
end Go.Proofs.Ytdciohinlhbliaa
