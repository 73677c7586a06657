
/-
  store.Write, walked.
-/
import Derived.Test.YtdciohinlhbliaaSWalkI
namespace Go.Proofs.Ytdciohinlhbliaa
open Go.RowKit
namespace Sp
def write (o : Ob) (k : Nat) (b : List UInt8) : Ob := { o with data := if 0 < b.length then lay o.data k b else o.data }
end Sp
theorem objV_eq (s : Sls) (o : Sp.Ob) : (objC (s, o)).toArray = #[.int .i64 o.kind, .slice s.d.a s.d.n s.d.c, .slice s.e.a s.e.n s.e.c, .string o.target, .int .i64 o.peer, .slice s.q.a s.q.n s.q.c, .int .i64 o.proc, .int .i64 o.links, .int .i64 o.up] := rfl
theorem Below.nine {B : Nat} {a w : World} (h : Below B a w) {b : Nat} (hb : B ≤ b) (c0 c1 c2 c3 c4 c5 c6 c7 c8 : Value) :
    Below B a (((((((((w.setCell ⟨b, 0, none⟩ c0).setCell ⟨b, 1, none⟩ c1).setCell ⟨b, 2, none⟩ c2).setCell ⟨b, 3, none⟩ c3).setCell ⟨b, 4, none⟩ c4).setCell ⟨b, 5, none⟩ c5).setCell ⟨b, 6, none⟩ c6).setCell ⟨b, 7, none⟩ c7).setCell ⟨b, 8, none⟩ c8) :=
  ((((((((h.setCell hb _).setCell hb _).setCell hb _).setCell hb _).setCell hb _).setCell hb _).setCell hb _).setCell hb _).setCell hb _
theorem below_two {w w2 : World} {x y : Obj} (h : Below ((w.alloc x).alloc y).heap.size ((w.alloc x).alloc y) w2) : Below w.heap.size w w2 := (((Below.refl w.heap.size w).alloc (Nat.le_refl _) x).alloc (by simp) y).trans (h.mono (by simp; omega))
/-- A goal that is held. -/
def Hold (p : Prop) : Prop := p
theorem stop_at {P : Program} {w : World} {ops : Array Oper} {rest : List Oper} {o : Oper} {a : Act} {Q : Exit → Act → World → Prop} (op : Op) (_ : o.op = op) (h : Hold (wpList P ops Q (o :: rest) a w)) : wpList P ops Q (o :: rest) a w := h
/-- A copy's lists, with other bytes. -/
theorem Lists.bytes {w : World} {S : Nat → Prop} {s : Sls} {o : Sp.Ob} (h : Lists w S (s, o)) (d : Sl) (l : List UInt8) (hd : Bytes w S (.slice d.a d.n d.c) l) : Lists w S (⟨d, s.e, s.q⟩, { o with data := l }) := ⟨hd, h.2.1, h.2.2⟩
end Go.Proofs.Ytdciohinlhbliaa
