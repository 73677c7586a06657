/-
  No cell of these rows narrows 'for every input' (looked for: loops, veiled, ifaces, maps, wideKeys, modest, calm, conditions, laid).
  DERIVED. THE GIVEN ROWS OF THIS SEAT. 6 by the template 'for every input the law returns true; each argument reads behind the call as it read before'; 0 by the template 'total and deterministic' (their statements: YtkobjcbcmbecfaaTotals.lean).
  GIVEN WITH THE SEED: the statements are not yours to turn. If you find one false, say at which input.
  Laid BY PROGRAM, IN A SANDBOX (cutbox-rows.mjs): the forced cells as the released guide's own fill.sh prints them over the translation 1ca063011fa14195… (all of the seat's roots in one cut). By AI agents, Wed Nov 11 2026. No macro, syntax, notation, axiom, sorry.
-/
import Derived.Test.YtkobjcbcmbecfaaChecked
import GoSem.Claim
import GoSem.ClaimJoined
import GoSem.ClaimMapViews
import Derived.JoinedTies
import Derived.KernelRfl
namespace Go.Proofs.Ytkobjcbcmbecfaa
/- THE CELL 'sum', in the pinned program and in every row, IS THE sha256 OF THE DUMP (.gsa) THAT YtkobjcbcmbecfaaProg.lean LOADS. Nothing in Lean hashes anything: it is a label: what it is worth is what the hold of that sum in a sandbox is worth. -/
noncomputable def Try.pinned : Pinned := { name := "ytkobjcbcmbecfaa", sum := "1ca063011fa1419571de2a075afdff5a23381e82f6289a28ba5cea316ab30e69", checked := Try.checked }
namespace Rows
def none {H : Type} : Left H := { results := [], args := [] }

/-- 'rglaw1.RightsTells': WHATEVER THE INPUT: true; the input reads as it did. -/
def rightsTellsSpec : ChangeSpec := { name := "rightsTells", fn := fun _ => fun
  | [d1, d2, d3, d4] => { results := [.lit (.bool true)], args := [d1, d2, d3, d4] }
  | _ => none }
def rightsTellsRow : OpenClaim := { program := "ytkobjcbcmbecfaa", sum := "1ca063011fa1419571de2a075afdff5a23381e82f6289a28ba5cea316ab30e69", func := "ringfence/rglaw1.RightsTells", spec := "rightsTells", inPlace := ["internal/bytealg.IndexByteString", "internal/bytealg.IndexString", "internal/abi.NoEscape", "internal/bytealg.MakeNoZero"], named := ["internal/bytealg.MaxLen"], apart := false }
def RightsTellsSaid : Prop := rightsTellsRow.holds Try.pinned (OpenSpec.ofChange rightsTellsSpec)

/-- ITS FALSE NEIGHBOUR: 'it returns false'. Refute it at one input. -/
def rightsTellsWrong : ChangeSpec := { name := "rightsTells", fn := fun _ => fun
  | [d1, d2, d3, d4] => { results := [.lit (.bool false)], args := [d1, d2, d3, d4] }
  | _ => none }
def RightsTellsWrongFalsely : Prop := rightsTellsRow.holds Try.pinned (OpenSpec.ofChange rightsTellsWrong)

/-- 'rglaw1.RightsOrder': WHATEVER THE INPUT: true; the input reads as it did. -/
def rightsOrderSpec : ChangeSpec := { name := "rightsOrder", fn := fun _ => fun
  | [d1, d2, d3] => { results := [.lit (.bool true)], args := [d1, d2, d3] }
  | _ => none }
def rightsOrderRow : OpenClaim := { program := "ytkobjcbcmbecfaa", sum := "1ca063011fa1419571de2a075afdff5a23381e82f6289a28ba5cea316ab30e69", func := "ringfence/rglaw1.RightsOrder", spec := "rightsOrder", inPlace := ["internal/bytealg.IndexByteString", "internal/bytealg.IndexString", "internal/abi.NoEscape", "internal/bytealg.MakeNoZero"], named := ["internal/bytealg.MaxLen"], apart := false }
def RightsOrderSaid : Prop := rightsOrderRow.holds Try.pinned (OpenSpec.ofChange rightsOrderSpec)

/-- ITS FALSE NEIGHBOUR: 'it returns false'. Refute it at one input. -/
def rightsOrderWrong : ChangeSpec := { name := "rightsOrder", fn := fun _ => fun
  | [d1, d2, d3] => { results := [.lit (.bool false)], args := [d1, d2, d3] }
  | _ => none }
def RightsOrderWrongFalsely : Prop := rightsOrderRow.holds Try.pinned (OpenSpec.ofChange rightsOrderWrong)

/-- 'rglaw1.RightsTurns': WHATEVER THE INPUT: true; the input reads as it did. -/
def rightsTurnsSpec : ChangeSpec := { name := "rightsTurns", fn := fun _ => fun
  | [d1, d2, d3] => { results := [.lit (.bool true)], args := [d1, d2, d3] }
  | _ => none }
def rightsTurnsRow : OpenClaim := { program := "ytkobjcbcmbecfaa", sum := "1ca063011fa1419571de2a075afdff5a23381e82f6289a28ba5cea316ab30e69", func := "ringfence/rglaw1.RightsTurns", spec := "rightsTurns", inPlace := ["internal/bytealg.IndexByteString", "internal/bytealg.IndexString", "internal/abi.NoEscape", "internal/bytealg.MakeNoZero"], named := ["internal/bytealg.MaxLen"], apart := false }
def RightsTurnsSaid : Prop := rightsTurnsRow.holds Try.pinned (OpenSpec.ofChange rightsTurnsSpec)

/-- ITS FALSE NEIGHBOUR: 'it returns false'. Refute it at one input. -/
def rightsTurnsWrong : ChangeSpec := { name := "rightsTurns", fn := fun _ => fun
  | [d1, d2, d3] => { results := [.lit (.bool false)], args := [d1, d2, d3] }
  | _ => none }
def RightsTurnsWrongFalsely : Prop := rightsTurnsRow.holds Try.pinned (OpenSpec.ofChange rightsTurnsWrong)

/-- 'rglaw2.BpfTells': WHATEVER THE INPUT: true; the input reads as it did. -/
def bpfTellsSpec : ChangeSpec := { name := "bpfTells", fn := fun _ => fun
  | [d1, d2, d3] => { results := [.lit (.bool true)], args := [d1, d2, d3] }
  | _ => none }
def bpfTellsRow : OpenClaim := { program := "ytkobjcbcmbecfaa", sum := "1ca063011fa1419571de2a075afdff5a23381e82f6289a28ba5cea316ab30e69", func := "ringfence/rglaw2.BpfTells", spec := "bpfTells", recurses := true, apart := false }
def BpfTellsSaid : Prop := bpfTellsRow.holds Try.pinned (OpenSpec.ofChange bpfTellsSpec)

/-- ITS FALSE NEIGHBOUR: 'it returns false'. Refute it at one input. -/
def bpfTellsWrong : ChangeSpec := { name := "bpfTells", fn := fun _ => fun
  | [d1, d2, d3] => { results := [.lit (.bool false)], args := [d1, d2, d3] }
  | _ => none }
def BpfTellsWrongFalsely : Prop := bpfTellsRow.holds Try.pinned (OpenSpec.ofChange bpfTellsWrong)

/-- 'rglaw2.BpfEnds': WHATEVER THE INPUT: true; the input reads as it did. -/
def bpfEndsSpec : ChangeSpec := { name := "bpfEnds", fn := fun _ => fun
  | [d1, d2] => { results := [.lit (.bool true)], args := [d1, d2] }
  | _ => none }
def bpfEndsRow : OpenClaim := { program := "ytkobjcbcmbecfaa", sum := "1ca063011fa1419571de2a075afdff5a23381e82f6289a28ba5cea316ab30e69", func := "ringfence/rglaw2.BpfEnds", spec := "bpfEnds", apart := false }
def BpfEndsSaid : Prop := bpfEndsRow.holds Try.pinned (OpenSpec.ofChange bpfEndsSpec)

/-- ITS FALSE NEIGHBOUR: 'it returns false'. Refute it at one input. -/
def bpfEndsWrong : ChangeSpec := { name := "bpfEnds", fn := fun _ => fun
  | [d1, d2] => { results := [.lit (.bool false)], args := [d1, d2] }
  | _ => none }
def BpfEndsWrongFalsely : Prop := bpfEndsRow.holds Try.pinned (OpenSpec.ofChange bpfEndsWrong)

/-- 'rglaw2.BpfTurns': WHATEVER THE INPUT: true; the input reads as it did. -/
def bpfTurnsSpec : ChangeSpec := { name := "bpfTurns", fn := fun _ => fun
  | [d1, d2] => { results := [.lit (.bool true)], args := [d1, d2] }
  | _ => none }
def bpfTurnsRow : OpenClaim := { program := "ytkobjcbcmbecfaa", sum := "1ca063011fa1419571de2a075afdff5a23381e82f6289a28ba5cea316ab30e69", func := "ringfence/rglaw2.BpfTurns", spec := "bpfTurns", apart := false }
def BpfTurnsSaid : Prop := bpfTurnsRow.holds Try.pinned (OpenSpec.ofChange bpfTurnsSpec)

/-- ITS FALSE NEIGHBOUR: 'it returns false'. Refute it at one input. -/
def bpfTurnsWrong : ChangeSpec := { name := "bpfTurns", fn := fun _ => fun
  | [d1, d2] => { results := [.lit (.bool false)], args := [d1, d2] }
  | _ => none }
def BpfTurnsWrongFalsely : Prop := bpfTurnsRow.holds Try.pinned (OpenSpec.ofChange bpfTurnsWrong)

/- THE SECOND FORM. 'bulk': how many values and letters a reading holds, each counted each time it is reached (what is shared counts as often as it is met; a slice's spare places count too). A statement '..UptoSaid' is the law's where the arguments, and the package variables that the reading takes, are together of bulk at most 1048576: NARROWER than '..Said'. Prove '..Said' where nothing that the law and all that it calls make is longer than what came in: it says more and counts as full. Else prove '..UptoSaid'. A law counts once. -/
mutual
def uptoBulk {H : Type} : DataW H → Nat
  | .lit (.string bytes) => bytes.length + 1
  | .lit _ => 1
  | .nil => 1
  | .ptr d => uptoBulk d + 1
  | .slice elems spare => uptoBulkAll elems + uptoBulkAll spare + 1
  | .agg parts => uptoBulkAll parts + 1
  | .iface _ d => uptoBulk d + 1
  | .map entries => uptoBulkEntries entries + 1
  | .held _ => 1
def uptoBulkAll {H : Type} : List (DataW H) → Nat
  | [] => 0
  | d :: r => uptoBulk d + uptoBulkAll r
def uptoBulkEntries {H : Type} : List (Lit × DataW H) → Nat
  | [] => 0
  | x :: r => uptoBulkEntry x + uptoBulkEntries r
def uptoBulkEntry {H : Type} : Lit × DataW H → Nat
  | (.string bytes, d) => bytes.length + uptoBulk d + 1
  | (_, d) => uptoBulk d + 1
 end
def uptoSmall : (H : Type) → List (DataW H) → Bool := fun _ ds => decide (uptoBulkAll ds ≤ 1048576)
def OpenSpec.upto (s : _root_.Go.ChangeSpec) : _root_.Go.OpenSpec := { _root_.Go.OpenSpec.ofChange s with cond := some uptoSmall }

/-- 'rglaw1.RightsTells', WHERE WHAT IT READS IS OF BULK AT MOST 1048576: true; the input reads as it did. -/
def rightsTellsUptoRow : OpenClaim := { program := "ytkobjcbcmbecfaa", sum := "1ca063011fa1419571de2a075afdff5a23381e82f6289a28ba5cea316ab30e69", func := "ringfence/rglaw1.RightsTells", spec := "rightsTells", inPlace := ["internal/bytealg.IndexByteString", "internal/bytealg.IndexString", "internal/abi.NoEscape", "internal/bytealg.MakeNoZero"], named := ["internal/bytealg.MaxLen"], apart := false, narrowed := true }
def RightsTellsUptoSaid : Prop := rightsTellsUptoRow.holds Try.pinned (OpenSpec.upto rightsTellsSpec)

/-- 'rglaw1.RightsOrder', WHERE WHAT IT READS IS OF BULK AT MOST 1048576: true; the input reads as it did. -/
def rightsOrderUptoRow : OpenClaim := { program := "ytkobjcbcmbecfaa", sum := "1ca063011fa1419571de2a075afdff5a23381e82f6289a28ba5cea316ab30e69", func := "ringfence/rglaw1.RightsOrder", spec := "rightsOrder", inPlace := ["internal/bytealg.IndexByteString", "internal/bytealg.IndexString", "internal/abi.NoEscape", "internal/bytealg.MakeNoZero"], named := ["internal/bytealg.MaxLen"], apart := false, narrowed := true }
def RightsOrderUptoSaid : Prop := rightsOrderUptoRow.holds Try.pinned (OpenSpec.upto rightsOrderSpec)

/-- 'rglaw1.RightsTurns', WHERE WHAT IT READS IS OF BULK AT MOST 1048576: true; the input reads as it did. -/
def rightsTurnsUptoRow : OpenClaim := { program := "ytkobjcbcmbecfaa", sum := "1ca063011fa1419571de2a075afdff5a23381e82f6289a28ba5cea316ab30e69", func := "ringfence/rglaw1.RightsTurns", spec := "rightsTurns", inPlace := ["internal/bytealg.IndexByteString", "internal/bytealg.IndexString", "internal/abi.NoEscape", "internal/bytealg.MakeNoZero"], named := ["internal/bytealg.MaxLen"], apart := false, narrowed := true }
def RightsTurnsUptoSaid : Prop := rightsTurnsUptoRow.holds Try.pinned (OpenSpec.upto rightsTurnsSpec)

/-- 'rglaw2.BpfTells', WHERE WHAT IT READS IS OF BULK AT MOST 1048576: true; the input reads as it did. -/
def bpfTellsUptoRow : OpenClaim := { program := "ytkobjcbcmbecfaa", sum := "1ca063011fa1419571de2a075afdff5a23381e82f6289a28ba5cea316ab30e69", func := "ringfence/rglaw2.BpfTells", spec := "bpfTells", recurses := true, apart := false, narrowed := true }
def BpfTellsUptoSaid : Prop := bpfTellsUptoRow.holds Try.pinned (OpenSpec.upto bpfTellsSpec)

/-- 'rglaw2.BpfEnds', WHERE WHAT IT READS IS OF BULK AT MOST 1048576: true; the input reads as it did. -/
def bpfEndsUptoRow : OpenClaim := { program := "ytkobjcbcmbecfaa", sum := "1ca063011fa1419571de2a075afdff5a23381e82f6289a28ba5cea316ab30e69", func := "ringfence/rglaw2.BpfEnds", spec := "bpfEnds", apart := false, narrowed := true }
def BpfEndsUptoSaid : Prop := bpfEndsUptoRow.holds Try.pinned (OpenSpec.upto bpfEndsSpec)

/-- 'rglaw2.BpfTurns', WHERE WHAT IT READS IS OF BULK AT MOST 1048576: true; the input reads as it did. -/
def bpfTurnsUptoRow : OpenClaim := { program := "ytkobjcbcmbecfaa", sum := "1ca063011fa1419571de2a075afdff5a23381e82f6289a28ba5cea316ab30e69", func := "ringfence/rglaw2.BpfTurns", spec := "bpfTurns", apart := false, narrowed := true }
def BpfTurnsUptoSaid : Prop := bpfTurnsUptoRow.holds Try.pinned (OpenSpec.upto bpfTurnsSpec)

end Rows
end Go.Proofs.Ytkobjcbcmbecfaa
