
/-
  Objects, as they lie in memory.
-/
import Derived.Test.YtdciohinlhbliaaSMem
namespace Go.Proofs.Ytdciohinlhbliaa
open Go.RowKit
/-- A slice, as a value. -/
structure Sl where
  a : Option Addr
  n : Nat
  c : Nat
def byteC (x : UInt8) : List Value := [.int .u8 (x.toNat : Int)]
def entC (e : Sp.Ent) : List Value := [.string e.name, .int .i64 e.obj]
def msgC (t : Sl × Sp.Msg) : List Value := [.slice t.1.a t.1.n t.1.c, .bool t.2.has, .int .i64 t.2.op, .int .i64 t.2.rt]
structure Sls where
  d : Sl
  e : Sl
  q : Sl
def objC (t : Sls × Sp.Ob) : List Value := [.int .i64 t.2.kind, .slice t.1.d.a t.1.d.n t.1.d.c, .slice t.1.e.a t.1.e.n t.1.e.c, .string t.2.target, .int .i64 t.2.peer, .slice t.1.q.a t.1.q.n t.1.q.c, .int .i64 t.2.proc, .int .i64 t.2.links, .int .i64 t.2.up]
theorem even_byte (l : List UInt8) : Even 1 (l.map byteC) := by
  intro cs h
  obtain ⟨x, _, rfl⟩ := List.mem_map.1 h
  rfl
theorem even_ent (l : List Sp.Ent) : Even 2 (l.map entC) := by
  intro cs h
  obtain ⟨x, _, rfl⟩ := List.mem_map.1 h
  rfl
theorem even_msg (l : List (Sl × Sp.Msg)) : Even 4 (l.map msgC) := by
  intro cs h
  obtain ⟨x, _, rfl⟩ := List.mem_map.1 h
  rfl
theorem even_obj (l : List (Sls × Sp.Ob)) : Even 9 (l.map objC) := by
  intro cs h
  obtain ⟨x, _, rfl⟩ := List.mem_map.1 h
  rfl
theorem ones_byte (l : List UInt8) : Ones (l.map byteC) := by
  intro cs h u hu
  obtain ⟨x, _, rfl⟩ := List.mem_map.1 h
  simp [byteC] at hu
  subst hu; rfl
theorem ones_ent (l : List Sp.Ent) : Ones (l.map entC) := by
  intro cs h u hu
  obtain ⟨x, _, rfl⟩ := List.mem_map.1 h
  simp [entC] at hu
  rcases hu with rfl | rfl <;> rfl
theorem ones_msg (l : List (Sl × Sp.Msg)) : Ones (l.map msgC) := by
  intro cs h u hu
  obtain ⟨x, _, rfl⟩ := List.mem_map.1 h
  simp [msgC] at hu
  rcases hu with rfl | rfl | rfl | rfl <;> rfl
theorem ones_obj (l : List (Sls × Sp.Ob)) : Ones (l.map objC) := by
  intro cs h u hu
  obtain ⟨x, _, rfl⟩ := List.mem_map.1 h
  simp [objC] at hu
  rcases hu with rfl | rfl | rfl | rfl | rfl | rfl | rfl | rfl | rfl <;> rfl
/-- Bytes, entries lie there. -/
def Bytes (w : World) (S : Nat → Prop) (v : Value) (l : List UInt8) : Prop := Row w S 1 v (l.map byteC)
def Ents (w : World) (S : Nat → Prop) (v : Value) (l : List Sp.Ent) : Prop := Row w S 2 v (l.map entC)
/-- Messages lie there, with their bytes. -/
def Queue (w : World) (S : Nat → Prop) (v : Value) (l : List Sp.Msg) : Prop :=
  ∃ ts : List (Sl × Sp.Msg), l = ts.map Prod.snd ∧ Row w S 4 v (ts.map msgC) ∧ ∀ t ∈ ts, Bytes w S (.slice t.1.a t.1.n t.1.c) t.2.data
/-- An object's lists lie there. -/
def Lists (w : World) (S : Nat → Prop) (t : Sls × Sp.Ob) : Prop :=
  Bytes w S (.slice t.1.d.a t.1.d.n t.1.d.c) t.2.data ∧ Ents w S (.slice t.1.e.a t.1.e.n t.1.e.c) t.2.ents ∧ Queue w S (.slice t.1.q.a t.1.q.n t.1.q.c) t.2.queue
/-- Objects lie there. -/
def Objs (w : World) (S : Nat → Prop) (v : Value) (l : List Sp.Ob) : Prop :=
  ∃ ts : List (Sls × Sp.Ob), l = ts.map Prod.snd ∧ Row w S 9 v (ts.map objC) ∧ ∀ t ∈ ts, Lists w S t
theorem Queue.on {w w' : World} {S : Nat → Prop} {v : Value} {l : List Sp.Msg} (h : Queue w S v l) (ho : On S w w') : Queue w' S v l := by
  obtain ⟨ts, h1, h2, h3⟩ := h
  exact ⟨ts, h1, h2.on ho, fun t ht => Row.on (h3 t ht) ho⟩
theorem Queue.more {w : World} {S T : Nat → Prop} {v : Value} {l : List Sp.Msg} (h : Queue w S v l) (hT : ∀ b, S b → T b) : Queue w T v l := by
  obtain ⟨ts, h1, h2, h3⟩ := h
  exact ⟨ts, h1, h2.more hT, fun t ht => Row.more (h3 t ht) hT⟩
theorem Lists.on {w w' : World} {S : Nat → Prop} {t : Sls × Sp.Ob} (h : Lists w S t) (ho : On S w w') : Lists w' S t := ⟨Row.on h.1 ho, Row.on h.2.1 ho, Queue.on h.2.2 ho⟩
theorem Lists.more {w : World} {S T : Nat → Prop} {t : Sls × Sp.Ob} (h : Lists w S t) (hT : ∀ b, S b → T b) : Lists w T t := ⟨Row.more h.1 hT, Row.more h.2.1 hT, Queue.more h.2.2 hT⟩
theorem Objs.on {w w' : World} {S : Nat → Prop} {v : Value} {l : List Sp.Ob} (h : Objs w S v l) (ho : On S w w') : Objs w' S v l := by
  obtain ⟨ts, h1, h2, h3⟩ := h
  exact ⟨ts, h1, h2.on ho, fun t ht => (h3 t ht).on ho⟩
theorem Objs.more {w : World} {S T : Nat → Prop} {v : Value} {l : List Sp.Ob} (h : Objs w S v l) (hT : ∀ b, S b → T b) : Objs w T v l := by
  obtain ⟨ts, h1, h2, h3⟩ := h
  exact ⟨ts, h1, h2.more hT, fun t ht => (h3 t ht).more hT⟩
/-- Not too much for a copy. -/
def Fits (o : Sp.Ob) : Prop := o.data.length ≤ 140737488355328 ∧ o.ents.length ≤ 1000000 ∧ o.queue.length ≤ 1000000 ∧ ∀ m ∈ o.queue, m.data.length ≤ 140737488355328
end Go.Proofs.Ytdciohinlhbliaa
