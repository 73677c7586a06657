
/-
  store.New, store.relink, walked.
-/
import Derived.Test.YthoacakdmnijcaaSWalkK
import Derived.Test.YthoacakdmnijcaaPWalkA
namespace Go.Proofs.Ythoacakdmnijcaa
open Go.RowKit
namespace Sp
def noEnter (L : List Ob) (dir : Int) (name : ByteArray) (obj : Int) : Int :=
  if (objAt L obj).isSome = false then 6 else if noDir L dir ≠ 0 then noDir L dir else match objAt L dir with
    | none => 6
    | some d => if d.links < 1 then 6 else if Pt.isName name.data.toList = false then 7 else if 0 ≤ place d.ents name then 7 else if 8 ≤ d.ents.length then 15 else 0
def linked (o : Ob) (more up : Int) : Ob := { o with links := o.links + more, up := if o.kind = 2 then up else o.up }
end Sp
theorem Mine.objs {w : World} {base g n c : Nat} {S : Nat → Prop} {ts : List (Sls × Sp.Ob)} (h : Mine w base 40 9 (.slice (some ⟨g, 0, none⟩) n c) (ts.map objC)) (hS : ∀ b, base ≤ b ∧ b < w.heap.size → S b) (hl : ∀ t ∈ ts, Lists w S t) : Objs w S (.slice (some ⟨g, 0, none⟩) n c) (ts.map Prod.snd) :=
  ⟨ts, rfl, (h.row (even_obj ts)).more hS, hl⟩
end Go.Proofs.Ythoacakdmnijcaa
