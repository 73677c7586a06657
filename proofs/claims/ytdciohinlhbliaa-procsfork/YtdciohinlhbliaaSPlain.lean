
/-
  What chapter 5 says of objects, as plain functions over lists.
-/
import Derived.Test.YtdciohinlhbliaaProg
import Derived.WalkKit
import Derived.WalkSpells
import Derived.Laws.Externs
import Derived.WalkLawsBesides
import Derived.Below
namespace Go.Proofs.Ytdciohinlhbliaa
open Go.RowKit
namespace Sp
structure Ent where
  name : ByteArray
  obj : Int
structure Msg where
  data : List UInt8
  has : Bool
  op : Int
  rt : Int
structure Ob where
  kind : Int
  data : List UInt8
  ents : List Ent
  target : ByteArray
  peer : Int
  queue : List Msg
  proc : Int
  links : Int
  up : Int
/-- An object of that number. -/
def objAt (l : List Ob) (k : Int) : Option Ob := if 0 ≤ k then (l[k.toNat]?).filter (fun o => o.kind != 0) else none
/-- What is wrong with k as a directory. -/
def noDir (l : List Ob) (k : Int) : Int := match objAt l k with
  | none => 6
  | some o => if o.kind = 2 then 0 else 11
/-- Texts, byte by byte. -/
def eqB (a b : ByteArray) : Bool := a.toList == b.toList
def placeFrom (name : ByteArray) : List Ent → Nat → Int
  | [], _ => -1
  | e :: t, k => if eqB e.name name = true then k else placeFrom name t (k + 1)
def place (es : List Ent) (name : ByteArray) : Int := placeFrom name es 0
def find (l : List Ob) (dir : Int) (name : ByteArray) : Int := match objAt l dir with
  | none => -1
  | some o => if o.kind = 2 then (match o.ents.find? (fun e => eqB e.name name) with | none => -1 | some e => e.obj) else -1
def freeFrom : List Ob → Nat → Int
  | [], _ => -1
  | o :: t, k => if o.kind = 0 then k else freeFrom t (k + 1)
def relink (l : List Ob) (k : Int) (more up : Int) : List Ob := match objAt l k with
  | none => l
  | some o => l.set k.toNat { o with links := o.links + more, up := if o.kind = 2 then up else o.up }
end Sp
end Go.Proofs.Ytdciohinlhbliaa
