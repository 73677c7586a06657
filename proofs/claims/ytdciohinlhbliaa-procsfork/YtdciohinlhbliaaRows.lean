/-
  No cell of these rows narrows 'for every input' (looked for: loops, veiled, ifaces, maps, wideKeys, modest, calm, conditions, laid).
  DERIVED. THE GIVEN ROWS OF THIS SEAT. 6 by the template 'for every input the law returns true; each argument reads behind the call as it read before'; 0 by the template 'total and deterministic' (their statements: YtdciohinlhbliaaTotals.lean).
  GIVEN WITH THE SEED: the statements are not yours to turn. If you find one false, say at which input.
  Laid BY PROGRAM, IN A SANDBOX (cutbox-rows.mjs): the forced cells as the released guide's own fill.sh prints them over the translation ab92212719dd952b… (all of the seat's roots in one cut). By AI agents, Wed Nov 11 2026. No macro, syntax, notation, axiom, sorry.
-/
import Derived.Test.YtdciohinlhbliaaChecked
import GoSem.Claim
import GoSem.ClaimJoined
import GoSem.ClaimMapViews
import Derived.JoinedTies
import Derived.KernelRfl
namespace Go.Proofs.Ytdciohinlhbliaa
/- THE CELL 'sum', in the pinned program and in every row, IS THE sha256 OF THE DUMP (.gsa) THAT YtdciohinlhbliaaProg.lean LOADS. Nothing in Lean hashes anything: it is a label: what it is worth is what the hold of that sum in a sandbox is worth. -/
noncomputable def Try.pinned : Pinned := { name := "ytdciohinlhbliaa", sum := "ab92212719dd952b042a664d6435e244c8cd49324f29d52d27f918d4a3042330", checked := Try.checked }
namespace Rows
def none {H : Type} : Left H := { results := [], args := [] }

/-- 'rglaw8.SweepTells': WHATEVER THE INPUT: true; the input reads as it did. -/
def sweepTellsSpec : ChangeSpec := { name := "sweepTells", fn := fun _ => fun
  | [d] => { results := [.lit (.bool true)], args := [d] }
  | _ => none }
def sweepTellsRow : OpenClaim := { program := "ytdciohinlhbliaa", sum := "ab92212719dd952b042a664d6435e244c8cd49324f29d52d27f918d4a3042330", func := "ringfence/rglaw8.SweepTells", spec := "sweepTells", unfollowed := true, recurses := true, apart := false }
def SweepTellsSaid : Prop := sweepTellsRow.holds Try.pinned (OpenSpec.ofChange sweepTellsSpec)

/-- ITS FALSE NEIGHBOUR: 'it returns false'. Refute it at one input. -/
def sweepTellsWrong : ChangeSpec := { name := "sweepTells", fn := fun _ => fun
  | [d] => { results := [.lit (.bool false)], args := [d] }
  | _ => none }
def SweepTellsWrongFalsely : Prop := sweepTellsRow.holds Try.pinned (OpenSpec.ofChange sweepTellsWrong)

/-- 'rglaw8.SweepTwice': WHATEVER THE INPUT: true; the input reads as it did. -/
def sweepTwiceSpec : ChangeSpec := { name := "sweepTwice", fn := fun _ => fun
  | [d] => { results := [.lit (.bool true)], args := [d] }
  | _ => none }
def sweepTwiceRow : OpenClaim := { program := "ytdciohinlhbliaa", sum := "ab92212719dd952b042a664d6435e244c8cd49324f29d52d27f918d4a3042330", func := "ringfence/rglaw8.SweepTwice", spec := "sweepTwice", unfollowed := true, recurses := true, apart := false }
def SweepTwiceSaid : Prop := sweepTwiceRow.holds Try.pinned (OpenSpec.ofChange sweepTwiceSpec)

/-- ITS FALSE NEIGHBOUR: 'it returns false'. Refute it at one input. -/
def sweepTwiceWrong : ChangeSpec := { name := "sweepTwice", fn := fun _ => fun
  | [d] => { results := [.lit (.bool false)], args := [d] }
  | _ => none }
def SweepTwiceWrongFalsely : Prop := sweepTwiceRow.holds Try.pinned (OpenSpec.ofChange sweepTwiceWrong)

/-- 'rglaw8.SweepKeeps': WHATEVER THE INPUT: true; the input reads as it did. -/
def sweepKeepsSpec : ChangeSpec := { name := "sweepKeeps", fn := fun _ => fun
  | [d] => { results := [.lit (.bool true)], args := [d] }
  | _ => none }
def sweepKeepsRow : OpenClaim := { program := "ytdciohinlhbliaa", sum := "ab92212719dd952b042a664d6435e244c8cd49324f29d52d27f918d4a3042330", func := "ringfence/rglaw8.SweepKeeps", spec := "sweepKeeps", unfollowed := true, recurses := true, apart := false }
def SweepKeepsSaid : Prop := sweepKeepsRow.holds Try.pinned (OpenSpec.ofChange sweepKeepsSpec)

/-- ITS FALSE NEIGHBOUR: 'it returns false'. Refute it at one input. -/
def sweepKeepsWrong : ChangeSpec := { name := "sweepKeeps", fn := fun _ => fun
  | [d] => { results := [.lit (.bool false)], args := [d] }
  | _ => none }
def SweepKeepsWrongFalsely : Prop := sweepKeepsRow.holds Try.pinned (OpenSpec.ofChange sweepKeepsWrong)

/-- 'rglaw10.ProcsFork': WHATEVER THE INPUT: true; the input reads as it did. -/
def procsForkSpec : ChangeSpec := { name := "procsFork", fn := fun _ => fun
  | [d1, d2] => { results := [.lit (.bool true)], args := [d1, d2] }
  | _ => none }
def procsForkRow : OpenClaim := { program := "ytdciohinlhbliaa", sum := "ab92212719dd952b042a664d6435e244c8cd49324f29d52d27f918d4a3042330", func := "ringfence/rglaw10.ProcsFork", spec := "procsFork", unfollowed := true, recurses := true, apart := false }
def ProcsForkSaid : Prop := procsForkRow.holds Try.pinned (OpenSpec.ofChange procsForkSpec)

/-- ITS FALSE NEIGHBOUR: 'it returns false'. Refute it at one input. -/
def procsForkWrong : ChangeSpec := { name := "procsFork", fn := fun _ => fun
  | [d1, d2] => { results := [.lit (.bool false)], args := [d1, d2] }
  | _ => none }
def ProcsForkWrongFalsely : Prop := procsForkRow.holds Try.pinned (OpenSpec.ofChange procsForkWrong)

/-- 'rglaw10.ProcsExit': WHATEVER THE INPUT: true; the input reads as it did. -/
def procsExitSpec : ChangeSpec := { name := "procsExit", fn := fun _ => fun
  | [d1, d2, d3] => { results := [.lit (.bool true)], args := [d1, d2, d3] }
  | _ => none }
def procsExitRow : OpenClaim := { program := "ytdciohinlhbliaa", sum := "ab92212719dd952b042a664d6435e244c8cd49324f29d52d27f918d4a3042330", func := "ringfence/rglaw10.ProcsExit", spec := "procsExit", unfollowed := true, recurses := true, apart := false }
def ProcsExitSaid : Prop := procsExitRow.holds Try.pinned (OpenSpec.ofChange procsExitSpec)

/-- ITS FALSE NEIGHBOUR: 'it returns false'. Refute it at one input. -/
def procsExitWrong : ChangeSpec := { name := "procsExit", fn := fun _ => fun
  | [d1, d2, d3] => { results := [.lit (.bool false)], args := [d1, d2, d3] }
  | _ => none }
def ProcsExitWrongFalsely : Prop := procsExitRow.holds Try.pinned (OpenSpec.ofChange procsExitWrong)

/-- 'rglaw10.ProcsOpened': WHATEVER THE INPUT: true; the input reads as it did. -/
def procsOpenedSpec : ChangeSpec := { name := "procsOpened", fn := fun _ => fun
  | [d1, d2, d3, d4] => { results := [.lit (.bool true)], args := [d1, d2, d3, d4] }
  | _ => none }
def procsOpenedRow : OpenClaim := { program := "ytdciohinlhbliaa", sum := "ab92212719dd952b042a664d6435e244c8cd49324f29d52d27f918d4a3042330", func := "ringfence/rglaw10.ProcsOpened", spec := "procsOpened", unfollowed := true, recurses := true, apart := false }
def ProcsOpenedSaid : Prop := procsOpenedRow.holds Try.pinned (OpenSpec.ofChange procsOpenedSpec)

/-- ITS FALSE NEIGHBOUR: 'it returns false'. Refute it at one input. -/
def procsOpenedWrong : ChangeSpec := { name := "procsOpened", fn := fun _ => fun
  | [d1, d2, d3, d4] => { results := [.lit (.bool false)], args := [d1, d2, d3, d4] }
  | _ => none }
def ProcsOpenedWrongFalsely : Prop := procsOpenedRow.holds Try.pinned (OpenSpec.ofChange procsOpenedWrong)

/- THE SECOND FORM. 'bulk': how many values and letters a reading holds, each counted each time it is reached (what is shared counts as often as it is met; a slice's spare places count too). A statement '..UptoSaid' is the law's where the arguments, and the package variables that the reading takes, are together of bulk at most 1048576: NARROWER than '..Said'. Prove '..Said' where nothing that the law and all that it calls make is longer than what came in: it says more and counts as full. Else prove '..UptoSaid'. A law counts once. -/
mutual
def uptoBulk {H : Type} : DataW H → Nat
  | .lit (.string bytes) => bytes.length + 1
  | .lit _ => 1
  | .nil => 1
  | .ptr d => uptoBulk d + 1
  | .slice elems spare => uptoBulkAll elems + uptoBulkAll spare + 1
  | .agg parts => uptoBulkAll parts + 1
  | .iface _ d => uptoBulk d + 1
  | .map entries => uptoBulkEntries entries + 1
  | .held _ => 1
def uptoBulkAll {H : Type} : List (DataW H) → Nat
  | [] => 0
  | d :: r => uptoBulk d + uptoBulkAll r
def uptoBulkEntries {H : Type} : List (Lit × DataW H) → Nat
  | [] => 0
  | x :: r => uptoBulkEntry x + uptoBulkEntries r
def uptoBulkEntry {H : Type} : Lit × DataW H → Nat
  | (.string bytes, d) => bytes.length + uptoBulk d + 1
  | (_, d) => uptoBulk d + 1
 end
def uptoSmall : (H : Type) → List (DataW H) → Bool := fun _ ds => decide (uptoBulkAll ds ≤ 1048576)
def OpenSpec.upto (s : _root_.Go.ChangeSpec) : _root_.Go.OpenSpec := { _root_.Go.OpenSpec.ofChange s with cond := some uptoSmall }

/-- 'rglaw8.SweepTells', WHERE WHAT IT READS IS OF BULK AT MOST 1048576: true; the input reads as it did. -/
def sweepTellsUptoRow : OpenClaim := { program := "ytdciohinlhbliaa", sum := "ab92212719dd952b042a664d6435e244c8cd49324f29d52d27f918d4a3042330", func := "ringfence/rglaw8.SweepTells", spec := "sweepTells", unfollowed := true, recurses := true, apart := false, narrowed := true }
def SweepTellsUptoSaid : Prop := sweepTellsUptoRow.holds Try.pinned (OpenSpec.upto sweepTellsSpec)

/-- 'rglaw8.SweepTwice', WHERE WHAT IT READS IS OF BULK AT MOST 1048576: true; the input reads as it did. -/
def sweepTwiceUptoRow : OpenClaim := { program := "ytdciohinlhbliaa", sum := "ab92212719dd952b042a664d6435e244c8cd49324f29d52d27f918d4a3042330", func := "ringfence/rglaw8.SweepTwice", spec := "sweepTwice", unfollowed := true, recurses := true, apart := false, narrowed := true }
def SweepTwiceUptoSaid : Prop := sweepTwiceUptoRow.holds Try.pinned (OpenSpec.upto sweepTwiceSpec)

/-- 'rglaw8.SweepKeeps', WHERE WHAT IT READS IS OF BULK AT MOST 1048576: true; the input reads as it did. -/
def sweepKeepsUptoRow : OpenClaim := { program := "ytdciohinlhbliaa", sum := "ab92212719dd952b042a664d6435e244c8cd49324f29d52d27f918d4a3042330", func := "ringfence/rglaw8.SweepKeeps", spec := "sweepKeeps", unfollowed := true, recurses := true, apart := false, narrowed := true }
def SweepKeepsUptoSaid : Prop := sweepKeepsUptoRow.holds Try.pinned (OpenSpec.upto sweepKeepsSpec)

/-- 'rglaw10.ProcsFork', WHERE WHAT IT READS IS OF BULK AT MOST 1048576: true; the input reads as it did. -/
def procsForkUptoRow : OpenClaim := { program := "ytdciohinlhbliaa", sum := "ab92212719dd952b042a664d6435e244c8cd49324f29d52d27f918d4a3042330", func := "ringfence/rglaw10.ProcsFork", spec := "procsFork", unfollowed := true, recurses := true, apart := false, narrowed := true }
def ProcsForkUptoSaid : Prop := procsForkUptoRow.holds Try.pinned (OpenSpec.upto procsForkSpec)

/-- 'rglaw10.ProcsExit', WHERE WHAT IT READS IS OF BULK AT MOST 1048576: true; the input reads as it did. -/
def procsExitUptoRow : OpenClaim := { program := "ytdciohinlhbliaa", sum := "ab92212719dd952b042a664d6435e244c8cd49324f29d52d27f918d4a3042330", func := "ringfence/rglaw10.ProcsExit", spec := "procsExit", unfollowed := true, recurses := true, apart := false, narrowed := true }
def ProcsExitUptoSaid : Prop := procsExitUptoRow.holds Try.pinned (OpenSpec.upto procsExitSpec)

/-- 'rglaw10.ProcsOpened', WHERE WHAT IT READS IS OF BULK AT MOST 1048576: true; the input reads as it did. -/
def procsOpenedUptoRow : OpenClaim := { program := "ytdciohinlhbliaa", sum := "ab92212719dd952b042a664d6435e244c8cd49324f29d52d27f918d4a3042330", func := "ringfence/rglaw10.ProcsOpened", spec := "procsOpened", unfollowed := true, recurses := true, apart := false, narrowed := true }
def ProcsOpenedUptoSaid : Prop := procsOpenedUptoRow.holds Try.pinned (OpenSpec.upto procsOpenedSpec)

end Rows
end Go.Proofs.Ytdciohinlhbliaa
