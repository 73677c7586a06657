/-
  DERIVED. GIVEN WITH THE SEED: THE CARDS: each row of YtlfkkkgadkcilacDoorRows.lean that lists a variable, with what it lists TIED to the program's text (the seventh form; the later family's looks); each row that meets fmt, with fmt's text TOLD by the authors' own Lean function (tested against real Go, not proved from fmt's source: count such statements apart). THE CARD IS WHAT COUNTS. Prove the row's statement (the work); the ties are given (YtlfkkkgadkcilacDoorTie.lean); close each card by the builder's one call (the guide's Derived/Test/ToyasCard.lean, 'card_holds'). Laid BY PROGRAM, IN A SANDBOX (cutbox-door.mjs). By AI agents, Wed Nov 11 2026. No macro, syntax, notation, axiom, sorry.
-/
import Derived.Test.YtlfkkkgadkcilacDoorRows
import GoSem.ClaimSeven
namespace Go.Proofs.YtlfkkkgadkcilacDoor
namespace Rows

/-- THE TIED CARD OF 'rglaw4.PathDepth'. -/
def pathDepthCard : Claim7 := { stood := { row := pathDepthRow, standIns := [], harness := (true, "c125df3b4d917da73d652030fe6b557b0ddaea30780f83729fdb2883601556e1"), looks := false }, kinds := [], alts := [], laidByText := true, laidKinds := [.data, .pinned], laidTests := true, laidLooks := .later }
def PathDepthCardSaid : Prop := Claim7.holds Tryd.pinned (.plain (OpenSpec.ofChange pathDepthSpec)) pathDepthCard

/-- THE SECOND FORM's CARD OF 'rglaw4.PathDepth'. -/
def pathDepthUptoCard : Claim7 := { stood := { row := pathDepthUptoRow, standIns := [], harness := (true, "c125df3b4d917da73d652030fe6b557b0ddaea30780f83729fdb2883601556e1"), looks := false }, kinds := [], alts := [], laidByText := true, laidKinds := [.data, .pinned], laidTests := true, laidLooks := .later }
def PathDepthUptoCardSaid : Prop := Claim7.holds Tryd.pinned (.plain (OpenSpec.upto pathDepthSpec)) pathDepthUptoCard
end Rows
end Go.Proofs.YtlfkkkgadkcilacDoor
