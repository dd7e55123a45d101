/-
  DERIVED. GIVEN WITH THE SEED: THE CARDS: each row of YtmfgbniabgencaaGreatDoorRows.lean that lists a variable, with what it lists TIED to the program's text (the seventh form; the later family's looks); each row that meets fmt, with fmt's text TOLD by the authors' own Lean function (tested against real Go, not proved from fmt's source: count such statements apart). THE CARD IS WHAT COUNTS. Prove the row's statement (the work); the ties are given (YtmfgbniabgencaaGreatDoorTie.lean); close each card by the builder's one call (the guide's Derived/Test/ToyasCard.lean, 'card_holds'). Laid BY PROGRAM, IN A SANDBOX (cutbox-door.mjs). By AI agents, Wed Nov 11 2026. No macro, syntax, notation, axiom, sorry.
-/
import Derived.Test.YtmfgbniabgencaaGreatDoorRows
import GoSem.ClaimSeven
namespace Go.Proofs.YtmfgbniabgencaaGreatDoor
namespace Rows

/-- THE TIED CARD OF 'watchbilllaw03.LexRefs'. -/
def lexRefsCard : Claim7 := { stood := { row := lexRefsRow, standIns := [], harness := (true, "43427a851c6b5b3d160e68a6abdedbff792a3362ddde79bb77fe4db135ee1649"), looks := true }, kinds := [], alts := [], laidByText := true, laidKinds := [.data, .data, .data, .data, .sentinel, .sentinel, .data, .data, .pinned, .pinned], laidTests := true, laidLooks := .later }
def LexRefsCardSaid : Prop := Claim7.holds Tryz.pinned (.plain (OpenSpec.ofChange lexRefsSpec)) lexRefsCard

/-- THE TIED CARD OF 'watchbilllaw04.TreeSame'. -/
def treeSameCard : Claim7 := { stood := { row := treeSameRow, standIns := [], harness := (true, "43427a851c6b5b3d160e68a6abdedbff792a3362ddde79bb77fe4db135ee1649"), looks := true }, kinds := [], alts := [], laidByText := true, laidKinds := [.data, .data, .data, .data, .sentinel, .sentinel, .data, .data, .pinned, .pinned], laidTests := true, laidLooks := .later }
def TreeSameCardSaid : Prop := Claim7.holds Tryz.pinned (.plain (OpenSpec.ofChange treeSameSpec)) treeSameCard

/-- THE TIED CARD OF 'watchbilllaw04.TreeSums'. -/
def treeSumsCard : Claim7 := { stood := { row := treeSumsRow, standIns := [], harness := (true, "43427a851c6b5b3d160e68a6abdedbff792a3362ddde79bb77fe4db135ee1649"), looks := true }, kinds := [], alts := [], laidByText := true, laidKinds := [.data, .data, .data, .data, .sentinel, .sentinel, .data, .data, .pinned, .pinned], laidTests := true, laidLooks := .later }
def TreeSumsCardSaid : Prop := Claim7.holds Tryz.pinned (.plain (OpenSpec.ofChange treeSumsSpec)) treeSumsCard

/-- THE TIED CARD OF 'watchbilllaw05.PrintPrints'. -/
def printPrintsCard : Claim7 := { stood := { row := printPrintsRow, standIns := [], harness := (true, "43427a851c6b5b3d160e68a6abdedbff792a3362ddde79bb77fe4db135ee1649"), looks := true }, kinds := [], alts := [], laidByText := true, laidKinds := [.data, .data, .data], laidTests := true, laidLooks := .later }
def PrintPrintsCardSaid : Prop := Claim7.holds Tryz.pinned (.plain (OpenSpec.ofChange printPrintsSpec)) printPrintsCard

/-- THE TIED CARD OF 'watchbilllaw05.PrintBack'. -/
def printBackCard : Claim7 := { stood := { row := printBackRow, standIns := [], harness := (true, "43427a851c6b5b3d160e68a6abdedbff792a3362ddde79bb77fe4db135ee1649"), looks := true }, kinds := [], alts := [], laidByText := true, laidKinds := [.data, .data, .data, .data, .sentinel, .sentinel, .data, .data, .pinned, .pinned], laidTests := true, laidLooks := .later }
def PrintBackCardSaid : Prop := Claim7.holds Tryz.pinned (.plain (OpenSpec.ofChange printBackSpec)) printBackCard

/-- THE TIED CARD OF 'watchbilllaw05.PrintAgain'. -/
def printAgainCard : Claim7 := { stood := { row := printAgainRow, standIns := [], harness := (true, "43427a851c6b5b3d160e68a6abdedbff792a3362ddde79bb77fe4db135ee1649"), looks := true }, kinds := [], alts := [], laidByText := true, laidKinds := [.data, .data, .data, .data, .sentinel, .sentinel, .data, .data, .pinned, .pinned], laidTests := true, laidLooks := .later }
def PrintAgainCardSaid : Prop := Claim7.holds Tryz.pinned (.plain (OpenSpec.ofChange printAgainSpec)) printAgainCard

/-- THE TIED CARD OF 'watchbilllaw05.PrintEscapes'. -/
def printEscapesCard : Claim7 := { stood := { row := printEscapesRow, standIns := [], harness := (true, "43427a851c6b5b3d160e68a6abdedbff792a3362ddde79bb77fe4db135ee1649"), looks := true }, kinds := [], alts := [], laidByText := true, laidKinds := [.data, .data, .data, .data, .sentinel, .sentinel, .pinned], laidTests := true, laidLooks := .later }
def PrintEscapesCardSaid : Prop := Claim7.holds Tryz.pinned (.plain (OpenSpec.ofChange printEscapesSpec)) printEscapesCard

/-- THE SECOND FORM's CARD OF 'watchbilllaw03.LexRefs'. -/
def lexRefsUptoCard : Claim7 := { stood := { row := lexRefsUptoRow, standIns := [], harness := (true, "43427a851c6b5b3d160e68a6abdedbff792a3362ddde79bb77fe4db135ee1649"), looks := true }, kinds := [], alts := [], laidByText := true, laidKinds := [.data, .data, .data, .data, .sentinel, .sentinel, .data, .data, .pinned, .pinned], laidTests := true, laidLooks := .later }
def LexRefsUptoCardSaid : Prop := Claim7.holds Tryz.pinned (.plain (OpenSpec.upto lexRefsSpec)) lexRefsUptoCard

/-- THE SECOND FORM's CARD OF 'watchbilllaw04.TreeSame'. -/
def treeSameUptoCard : Claim7 := { stood := { row := treeSameUptoRow, standIns := [], harness := (true, "43427a851c6b5b3d160e68a6abdedbff792a3362ddde79bb77fe4db135ee1649"), looks := true }, kinds := [], alts := [], laidByText := true, laidKinds := [.data, .data, .data, .data, .sentinel, .sentinel, .data, .data, .pinned, .pinned], laidTests := true, laidLooks := .later }
def TreeSameUptoCardSaid : Prop := Claim7.holds Tryz.pinned (.plain (OpenSpec.upto treeSameSpec)) treeSameUptoCard

/-- THE SECOND FORM's CARD OF 'watchbilllaw04.TreeSums'. -/
def treeSumsUptoCard : Claim7 := { stood := { row := treeSumsUptoRow, standIns := [], harness := (true, "43427a851c6b5b3d160e68a6abdedbff792a3362ddde79bb77fe4db135ee1649"), looks := true }, kinds := [], alts := [], laidByText := true, laidKinds := [.data, .data, .data, .data, .sentinel, .sentinel, .data, .data, .pinned, .pinned], laidTests := true, laidLooks := .later }
def TreeSumsUptoCardSaid : Prop := Claim7.holds Tryz.pinned (.plain (OpenSpec.upto treeSumsSpec)) treeSumsUptoCard

/-- THE SECOND FORM's CARD OF 'watchbilllaw05.PrintPrints'. -/
def printPrintsUptoCard : Claim7 := { stood := { row := printPrintsUptoRow, standIns := [], harness := (true, "43427a851c6b5b3d160e68a6abdedbff792a3362ddde79bb77fe4db135ee1649"), looks := true }, kinds := [], alts := [], laidByText := true, laidKinds := [.data, .data, .data], laidTests := true, laidLooks := .later }
def PrintPrintsUptoCardSaid : Prop := Claim7.holds Tryz.pinned (.plain (OpenSpec.upto printPrintsSpec)) printPrintsUptoCard

/-- THE SECOND FORM's CARD OF 'watchbilllaw05.PrintBack'. -/
def printBackUptoCard : Claim7 := { stood := { row := printBackUptoRow, standIns := [], harness := (true, "43427a851c6b5b3d160e68a6abdedbff792a3362ddde79bb77fe4db135ee1649"), looks := true }, kinds := [], alts := [], laidByText := true, laidKinds := [.data, .data, .data, .data, .sentinel, .sentinel, .data, .data, .pinned, .pinned], laidTests := true, laidLooks := .later }
def PrintBackUptoCardSaid : Prop := Claim7.holds Tryz.pinned (.plain (OpenSpec.upto printBackSpec)) printBackUptoCard

/-- THE SECOND FORM's CARD OF 'watchbilllaw05.PrintAgain'. -/
def printAgainUptoCard : Claim7 := { stood := { row := printAgainUptoRow, standIns := [], harness := (true, "43427a851c6b5b3d160e68a6abdedbff792a3362ddde79bb77fe4db135ee1649"), looks := true }, kinds := [], alts := [], laidByText := true, laidKinds := [.data, .data, .data, .data, .sentinel, .sentinel, .data, .data, .pinned, .pinned], laidTests := true, laidLooks := .later }
def PrintAgainUptoCardSaid : Prop := Claim7.holds Tryz.pinned (.plain (OpenSpec.upto printAgainSpec)) printAgainUptoCard

/-- THE SECOND FORM's CARD OF 'watchbilllaw05.PrintEscapes'. -/
def printEscapesUptoCard : Claim7 := { stood := { row := printEscapesUptoRow, standIns := [], harness := (true, "43427a851c6b5b3d160e68a6abdedbff792a3362ddde79bb77fe4db135ee1649"), looks := true }, kinds := [], alts := [], laidByText := true, laidKinds := [.data, .data, .data, .data, .sentinel, .sentinel, .pinned], laidTests := true, laidLooks := .later }
def PrintEscapesUptoCardSaid : Prop := Claim7.holds Tryz.pinned (.plain (OpenSpec.upto printEscapesSpec)) printEscapesUptoCard
end Rows
end Go.Proofs.YtmfgbniabgencaaGreatDoor
