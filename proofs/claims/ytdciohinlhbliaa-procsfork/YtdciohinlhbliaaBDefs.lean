
/-
  What rgref5.Build picks, and what it makes of it, as plain functions: definitions.
-/
import Derived.Test.YtdciohinlhbliaaRMake
namespace Go.Proofs.Ytdciohinlhbliaa
open Go.RowKit
namespace Sp
def rootO : Ob := ⟨2, [], [], ⟨#[]⟩, -1, [], -1, 1, 0⟩
/-- What one round picks: a kind, how many bytes, a target, a directory, a name. -/
structure Rnd where
  kind : Nat
  len : Nat
  tgt : Nat
  d : Nat
  nm : Nat
def dataT : List UInt8 := [100, 97, 116, 97]
def tgts : List ByteArray := [⟨#[97]⟩, ⟨#[98, 47, 99]⟩, ⟨#[46, 46]⟩, ⟨#[47, 97]⟩, ⟨#[46, 46, 47, 98]⟩, ⟨#[]⟩]
def nms : List ByteArray := [⟨#[97]⟩, ⟨#[98]⟩, ⟨#[99]⟩, ⟨#[100]⟩]
def rK (r : Rnd) : Int := 1 + ((r.kind % 3 : Nat) : Int)
def rO (r : Rnd) : Ob := ⟨rK r, if r.kind % 3 = 0 then dataT.take r.len else [], [], if r.kind % 3 = 2 then tgts.getD r.tgt ⟨#[]⟩ else ⟨#[]⟩, -1, [], -1, 0, 0⟩
def rN (r : Rnd) : ByteArray := nms.getD (r.nm % 4) ⟨#[97]⟩
/-- A descriptor of a process. -/
def obP (p : Int) : Ob := ⟨5, [], [], ⟨#[]⟩, -1, [], p, 0, 0⟩
structure Opn where
  obj : Int
  pos : Int
structure Slt where
  has : Bool
  op : Int
  rt : Int
structure Prc where
  live : Bool
  fenced : Bool
  code : Int
  slots : List Slt
/-- What holds of an open file, of a slot, of a process, of a message. -/
def OpnOk (n : Nat) (x : Opn) : Prop := 0 ≤ x.obj ∧ x.obj < n ∧ 0 ≤ x.pos ∧ x.pos < 4
def SltOk (n : Nat) (x : Slt) : Prop := x.has = true ∧ 0 ≤ x.op ∧ x.op < n ∧ 0 ≤ x.rt ∧ x.rt ≤ 4095
def PrcOk (n : Nat) (x : Prc) : Prop := x.slots.length ≤ 4 ∧ (∀ s ∈ x.slots, SltOk n s) ∧ 0 ≤ x.code ∧ x.code ≤ 8 ∧ (x.live = true → x.code = 0) ∧ (x.live = false → x.fenced = false ∧ x.slots = [])
def MsgOk (n : Nat) (m : Msg) : Prop := m.data = [109] ∧ ((m.has = true ∧ 0 ≤ m.op ∧ m.op < n ∧ 0 ≤ m.rt ∧ m.rt < 200) ∨ (m.has = false ∧ m.op = 0 ∧ m.rt = 0))
end Sp
end Go.Proofs.Ytdciohinlhbliaa
