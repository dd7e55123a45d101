/-
  DERIVED. GIVEN WITH THE SEED: THE CARDS: each row of YtlcjepnaljfpkaaGreatDoorRows.lean that lists a variable, with what it lists TIED to the program's text (the seventh form; the later family's looks); each row that meets fmt, with fmt's text TOLD by the authors' own Lean function (tested against real Go, not proved from fmt's source: count such statements apart). THE CARD IS WHAT COUNTS. Prove the row's statement (the work); the ties are given (YtlcjepnaljfpkaaGreatDoorTie.lean); close each card by the builder's one call (the guide's Derived/Test/ToyasCard.lean, 'card_holds'). Laid BY PROGRAM, IN A SANDBOX (cutbox-door.mjs). By AI agents, Wed Nov 11 2026. No macro, syntax, notation, axiom, sorry.
-/
import Derived.Test.YtlcjepnaljfpkaaGreatDoorRows
import GoSem.ClaimSeven
namespace Go.Proofs.YtlcjepnaljfpkaaGreatDoor
namespace Rows

/-- THE TIED CARD OF 'watchbilllaw03.LexRefs'. -/
def lexRefsCard : Claim7 := { stood := { row := lexRefsRow, standIns := [], harness := (true, "6ba19a51a77949421123b38e147d702bac806f70ec74226e397aaf01f31a99a0"), looks := true }, kinds := [], alts := [], laidByText := true, laidKinds := [.data, .data, .data, .data, .sentinel, .sentinel, .data, .data, .pinned, .pinned], laidTests := true, laidLooks := .later }
def LexRefsCardSaid : Prop := Claim7.holds Tryz.pinned (.plain (OpenSpec.ofChange lexRefsSpec)) lexRefsCard

/-- THE TIED CARD OF 'watchbilllaw05.PrintPrints'. -/
def printPrintsCard : Claim7 := { stood := { row := printPrintsRow, standIns := [], harness := (true, "6ba19a51a77949421123b38e147d702bac806f70ec74226e397aaf01f31a99a0"), looks := true }, kinds := [], alts := [], laidByText := true, laidKinds := [.data, .data, .data], laidTests := true, laidLooks := .later }
def PrintPrintsCardSaid : Prop := Claim7.holds Tryz.pinned (.plain (OpenSpec.ofChange printPrintsSpec)) printPrintsCard

/-- THE SECOND FORM's CARD OF 'watchbilllaw03.LexRefs'. -/
def lexRefsUptoCard : Claim7 := { stood := { row := lexRefsUptoRow, standIns := [], harness := (true, "6ba19a51a77949421123b38e147d702bac806f70ec74226e397aaf01f31a99a0"), looks := true }, kinds := [], alts := [], laidByText := true, laidKinds := [.data, .data, .data, .data, .sentinel, .sentinel, .data, .data, .pinned, .pinned], laidTests := true, laidLooks := .later }
def LexRefsUptoCardSaid : Prop := Claim7.holds Tryz.pinned (.plain (OpenSpec.upto lexRefsSpec)) lexRefsUptoCard

/-- THE SECOND FORM's CARD OF 'watchbilllaw05.PrintPrints'. -/
def printPrintsUptoCard : Claim7 := { stood := { row := printPrintsUptoRow, standIns := [], harness := (true, "6ba19a51a77949421123b38e147d702bac806f70ec74226e397aaf01f31a99a0"), looks := true }, kinds := [], alts := [], laidByText := true, laidKinds := [.data, .data, .data], laidTests := true, laidLooks := .later }
def PrintPrintsUptoCardSaid : Prop := Claim7.holds Tryz.pinned (.plain (OpenSpec.upto printPrintsSpec)) printPrintsUptoCard
end Rows
end Go.Proofs.YtlcjepnaljfpkaaGreatDoor
