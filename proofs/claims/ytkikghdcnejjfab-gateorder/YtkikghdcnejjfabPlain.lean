/-
  What chapter 2 says of programs, as plain functions over lists.
-/
import Derived.Test.YtkikghdcnejjfabProg
import Derived.WalkKit
import Derived.WalkSpells
namespace Go.Proofs.Ytkikghdcnejjfab
namespace Bp
/-- An instruction: op, jt, jf, k. -/
structure Ins where
  op : Int
  jt : Int
  jf : Int
  k : Int
  deriving DecidableEq, Inhabited

/-- From nought on, and below. -/
def bel (n m : Int) : Bool := decide (0 ≤ n ∧ n < m)
/-- The three jumps. -/
def br (op : Int) : Bool := decide (op = 2 ∨ op = 3 ∨ op = 4)
/-- Do the numbers fit, with so many instructions behind? -/
def fits (i : Ins) (behind : Int) : Bool :=
  if i.op = 1 then bel i.k 6
  else if i.op = 2 ∨ i.op = 3 ∨ i.op = 4 then bel i.k 2147483648 && bel i.jt (min behind 41) && bel i.jf (min behind 41)
  else if i.op = 5 then bel i.k behind
  else decide (i.k = 1 ∨ i.k = 0)
/-- What is wrong with one instruction. -/
def wrong (i : Ins) (behind : Int) : Int :=
  if i.op < 1 ∨ 6 < i.op then 1
  else if fits i behind = false then 3
  else if br i.op = false ∧ (i.jt ≠ 0 ∨ i.jf ≠ 0) then 2
  else 0
/-- The first one with which something is wrong. -/
def first : List Ins → Nat → Option (Int × Nat)
  | [], _ => none
  | i :: t, at' => if wrong i t.length ≠ 0 then some (wrong i t.length, at') else first t (at' + 1)
/-- Check. -/
def chk (p : List Ins) : Int × Nat :=
  if p.length < 1 ∨ 400 < p.length then (5, 0)
  else match first p 0 with
    | some f => f
    | none => if (p.getD (p.length - 1) default).op ≠ 6 then (2, p.length - 1) else (0, 0)
/-- How many are left out, and what the accumulator is then. -/
def holds (i : Ins) (acc : Int) : Bool :=
  if i.op = 2 then decide (acc = i.k) else if i.op = 3 then decide (i.k ≤ acc) else if i.op = 4 then (bits .and .i64 acc i.k != 0) else false
def over (i : Ins) (acc : Int) : Int :=
  if i.op = 1 then 0 else if i.op = 5 then i.k else if holds i acc then i.jt else i.jf
def acc' (r : Nat → Int) (i : Ins) (acc : Int) : Int := if i.op = 1 then r i.k.toNat else acc
/-- From a place on: what comes of it, and in how many steps. -/
def from' (r : Nat → Int) : List Ins → Int → Int × Nat
  | [], _ => (0, 0)
  | i :: t, acc => if i.op = 6 then (i.k, 1) else
      let x := from' r (t.drop (over i acc).toNat) (acc' r i acc)
      (x.1, x.2 + 1)
  termination_by p => p.length
  decreasing_by simp; omega
def run (p : List Ins) (r : Nat → Int) : Int × Nat := if (chk p).1 ≠ 0 then (0, 0) else from' r p 0
/-- A byte of a number. -/
def byt (n : Int) : Nat := (n % 256).toNat
def insBytes (i : Ins) : List Nat := [byt i.op, byt i.jt, byt i.jf, byt i.k, byt (i.k / 256), byt (i.k / 65536), byt (i.k / 16777216)]
def bytes (p : List Ins) : List Nat := p.flatMap insBytes
end Bp
end Go.Proofs.Ytkikghdcnejjfab
