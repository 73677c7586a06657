/-
  No cell of these rows narrows 'for every input' (looked for: loops, veiled, ifaces, maps, wideKeys, modest, calm, conditions, laid).
  DERIVED. THE GIVEN ROWS OF THIS SEAT. 4 by the template 'for every input the law returns true; each argument reads behind the call as it read before'; 0 by the template 'total and deterministic' (their statements: YtkikghdcnejjfabTotals.lean).
  GIVEN WITH THE SEED: the statements are not yours to turn. If you find one false, say at which input.
  Laid BY PROGRAM, IN A SANDBOX (cutbox-rows.mjs): the forced cells as the released guide's own fill.sh prints them over the translation e413484c22d268b0… (all of the seat's roots in one cut). By AI agents, Wed Nov 11 2026. No macro, syntax, notation, axiom, sorry.
-/
import Derived.Test.YtkikghdcnejjfabChecked
import GoSem.Claim
import GoSem.ClaimJoined
import GoSem.ClaimMapViews
import Derived.JoinedTies
import Derived.KernelRfl
namespace Go.Proofs.Ytkikghdcnejjfab
/- THE CELL 'sum', in the pinned program and in every row, IS THE sha256 OF THE DUMP (.gsa) THAT YtkikghdcnejjfabProg.lean LOADS. Nothing in Lean hashes anything: it is a label: what it is worth is what the hold of that sum in a sandbox is worth. -/
noncomputable def Try.pinned : Pinned := { name := "ytkikghdcnejjfab", sum := "e413484c22d268b012f30e60f20dcdec674abf6876b5b3e21652b139e813de10", checked := Try.checked }
namespace Rows
def none {H : Type} : Left H := { results := [], args := [] }

/-- 'rglaw2.BpfAhead': WHATEVER THE INPUT: true; the input reads as it did. -/
def bpfAheadSpec : ChangeSpec := { name := "bpfAhead", fn := fun _ => fun
  | [d1, d2, d3] => { results := [.lit (.bool true)], args := [d1, d2, d3] }
  | _ => none }
def bpfAheadRow : OpenClaim := { program := "ytkikghdcnejjfab", sum := "e413484c22d268b012f30e60f20dcdec674abf6876b5b3e21652b139e813de10", func := "ringfence/rglaw2.BpfAhead", spec := "bpfAhead", apart := false }
def BpfAheadSaid : Prop := bpfAheadRow.holds Try.pinned (OpenSpec.ofChange bpfAheadSpec)

/-- ITS FALSE NEIGHBOUR: 'it returns false'. Refute it at one input. -/
def bpfAheadWrong : ChangeSpec := { name := "bpfAhead", fn := fun _ => fun
  | [d1, d2, d3] => { results := [.lit (.bool false)], args := [d1, d2, d3] }
  | _ => none }
def BpfAheadWrongFalsely : Prop := bpfAheadRow.holds Try.pinned (OpenSpec.ofChange bpfAheadWrong)

/-- 'rglaw3.GateTells': WHATEVER THE INPUT: true; the input reads as it did. -/
def gateTellsSpec : ChangeSpec := { name := "gateTells", fn := fun _ => fun
  | [d1, d2] => { results := [.lit (.bool true)], args := [d1, d2] }
  | _ => none }
def gateTellsRow : OpenClaim := { program := "ytkikghdcnejjfab", sum := "e413484c22d268b012f30e60f20dcdec674abf6876b5b3e21652b139e813de10", func := "ringfence/rglaw3.GateTells", spec := "gateTells", unfollowed := true, recurses := true, apart := false }
def GateTellsSaid : Prop := gateTellsRow.holds Try.pinned (OpenSpec.ofChange gateTellsSpec)

/-- ITS FALSE NEIGHBOUR: 'it returns false'. Refute it at one input. -/
def gateTellsWrong : ChangeSpec := { name := "gateTells", fn := fun _ => fun
  | [d1, d2] => { results := [.lit (.bool false)], args := [d1, d2] }
  | _ => none }
def GateTellsWrongFalsely : Prop := gateTellsRow.holds Try.pinned (OpenSpec.ofChange gateTellsWrong)

/-- 'rglaw3.GateSame': WHATEVER THE INPUT: true; the input reads as it did. -/
def gateSameSpec : ChangeSpec := { name := "gateSame", fn := fun _ => fun
  | [d1, d2] => { results := [.lit (.bool true)], args := [d1, d2] }
  | _ => none }
def gateSameRow : OpenClaim := { program := "ytkikghdcnejjfab", sum := "e413484c22d268b012f30e60f20dcdec674abf6876b5b3e21652b139e813de10", func := "ringfence/rglaw3.GateSame", spec := "gateSame", unfollowed := true, recurses := true, apart := false }
def GateSameSaid : Prop := gateSameRow.holds Try.pinned (OpenSpec.ofChange gateSameSpec)

/-- ITS FALSE NEIGHBOUR: 'it returns false'. Refute it at one input. -/
def gateSameWrong : ChangeSpec := { name := "gateSame", fn := fun _ => fun
  | [d1, d2] => { results := [.lit (.bool false)], args := [d1, d2] }
  | _ => none }
def GateSameWrongFalsely : Prop := gateSameRow.holds Try.pinned (OpenSpec.ofChange gateSameWrong)

/-- 'rglaw3.GateOrder': WHATEVER THE INPUT: true; the input reads as it did. -/
def gateOrderSpec : ChangeSpec := { name := "gateOrder", fn := fun _ => fun
  | [d1, d2] => { results := [.lit (.bool true)], args := [d1, d2] }
  | _ => none }
def gateOrderRow : OpenClaim := { program := "ytkikghdcnejjfab", sum := "e413484c22d268b012f30e60f20dcdec674abf6876b5b3e21652b139e813de10", func := "ringfence/rglaw3.GateOrder", spec := "gateOrder", unfollowed := true, recurses := true, apart := false }
def GateOrderSaid : Prop := gateOrderRow.holds Try.pinned (OpenSpec.ofChange gateOrderSpec)

/-- ITS FALSE NEIGHBOUR: 'it returns false'. Refute it at one input. -/
def gateOrderWrong : ChangeSpec := { name := "gateOrder", fn := fun _ => fun
  | [d1, d2] => { results := [.lit (.bool false)], args := [d1, d2] }
  | _ => none }
def GateOrderWrongFalsely : Prop := gateOrderRow.holds Try.pinned (OpenSpec.ofChange gateOrderWrong)

/- THE SECOND FORM. 'bulk': how many values and letters a reading holds, each counted each time it is reached (what is shared counts as often as it is met; a slice's spare places count too). A statement '..UptoSaid' is the law's where the arguments, and the package variables that the reading takes, are together of bulk at most 1048576: NARROWER than '..Said'. Prove '..Said' where nothing that the law and all that it calls make is longer than what came in: it says more and counts as full. Else prove '..UptoSaid'. A law counts once. -/
mutual
def uptoBulk {H : Type} : DataW H → Nat
  | .lit (.string bytes) => bytes.length + 1
  | .lit _ => 1
  | .nil => 1
  | .ptr d => uptoBulk d + 1
  | .slice elems spare => uptoBulkAll elems + uptoBulkAll spare + 1
  | .agg parts => uptoBulkAll parts + 1
  | .iface _ d => uptoBulk d + 1
  | .map entries => uptoBulkEntries entries + 1
  | .held _ => 1
def uptoBulkAll {H : Type} : List (DataW H) → Nat
  | [] => 0
  | d :: r => uptoBulk d + uptoBulkAll r
def uptoBulkEntries {H : Type} : List (Lit × DataW H) → Nat
  | [] => 0
  | x :: r => uptoBulkEntry x + uptoBulkEntries r
def uptoBulkEntry {H : Type} : Lit × DataW H → Nat
  | (.string bytes, d) => bytes.length + uptoBulk d + 1
  | (_, d) => uptoBulk d + 1
 end
def uptoSmall : (H : Type) → List (DataW H) → Bool := fun _ ds => decide (uptoBulkAll ds ≤ 1048576)
def OpenSpec.upto (s : _root_.Go.ChangeSpec) : _root_.Go.OpenSpec := { _root_.Go.OpenSpec.ofChange s with cond := some uptoSmall }

/-- 'rglaw2.BpfAhead', WHERE WHAT IT READS IS OF BULK AT MOST 1048576: true; the input reads as it did. -/
def bpfAheadUptoRow : OpenClaim := { program := "ytkikghdcnejjfab", sum := "e413484c22d268b012f30e60f20dcdec674abf6876b5b3e21652b139e813de10", func := "ringfence/rglaw2.BpfAhead", spec := "bpfAhead", apart := false, narrowed := true }
def BpfAheadUptoSaid : Prop := bpfAheadUptoRow.holds Try.pinned (OpenSpec.upto bpfAheadSpec)

/-- 'rglaw3.GateTells', WHERE WHAT IT READS IS OF BULK AT MOST 1048576: true; the input reads as it did. -/
def gateTellsUptoRow : OpenClaim := { program := "ytkikghdcnejjfab", sum := "e413484c22d268b012f30e60f20dcdec674abf6876b5b3e21652b139e813de10", func := "ringfence/rglaw3.GateTells", spec := "gateTells", unfollowed := true, recurses := true, apart := false, narrowed := true }
def GateTellsUptoSaid : Prop := gateTellsUptoRow.holds Try.pinned (OpenSpec.upto gateTellsSpec)

/-- 'rglaw3.GateSame', WHERE WHAT IT READS IS OF BULK AT MOST 1048576: true; the input reads as it did. -/
def gateSameUptoRow : OpenClaim := { program := "ytkikghdcnejjfab", sum := "e413484c22d268b012f30e60f20dcdec674abf6876b5b3e21652b139e813de10", func := "ringfence/rglaw3.GateSame", spec := "gateSame", unfollowed := true, recurses := true, apart := false, narrowed := true }
def GateSameUptoSaid : Prop := gateSameUptoRow.holds Try.pinned (OpenSpec.upto gateSameSpec)

/-- 'rglaw3.GateOrder', WHERE WHAT IT READS IS OF BULK AT MOST 1048576: true; the input reads as it did. -/
def gateOrderUptoRow : OpenClaim := { program := "ytkikghdcnejjfab", sum := "e413484c22d268b012f30e60f20dcdec674abf6876b5b3e21652b139e813de10", func := "ringfence/rglaw3.GateOrder", spec := "gateOrder", unfollowed := true, recurses := true, apart := false, narrowed := true }
def GateOrderUptoSaid : Prop := gateOrderUptoRow.holds Try.pinned (OpenSpec.upto gateOrderSpec)

end Rows
end Go.Proofs.Ytkikghdcnejjfab
