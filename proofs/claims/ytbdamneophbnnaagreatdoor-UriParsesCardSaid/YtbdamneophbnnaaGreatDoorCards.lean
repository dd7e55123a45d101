/-
  DERIVED. GIVEN WITH THE SEED: THE CARDS: each row of YtbdamneophbnnaaGreatDoorRows.lean that lists a variable, with what it lists TIED to the program's text (the seventh form; the later family's looks); each row that meets fmt, with fmt's text TOLD by the authors' own Lean function (tested against real Go, not proved from fmt's source: count such statements apart). THE CARD IS WHAT COUNTS. Prove the row's statement (the work); the ties are given (YtbdamneophbnnaaGreatDoorTie.lean); close each card by the builder's one call (the guide's Derived/Test/ToyasCard.lean, 'card_holds'). Laid BY PROGRAM, IN A SANDBOX (cutbox-door.mjs). By AI agents, Wed Nov 11 2026. No macro, syntax, notation, axiom, sorry.
-/
import Derived.Test.YtbdamneophbnnaaGreatDoorRows
import GoSem.ClaimSeven
namespace Go.Proofs.YtbdamneophbnnaaGreatDoor
namespace Rows

/-- THE TIED CARD OF 'watchbilllaw11.UriParses'. -/
def uriParsesCard : Claim7 := { stood := { row := uriParsesRow, standIns := [], harness := (true, "4cdfb0f92310acf0b20c46c465d1cbb16b93a6c382adad99c89842d8d6a75511"), looks := true }, kinds := [], alts := [], laidByText := true, laidKinds := [.data, .data, .data, .data, .sentinel, .sentinel, .pinned], laidTests := true, laidLooks := .later }
def UriParsesCardSaid : Prop := Claim7.holds Tryz.pinned (.plain (OpenSpec.ofChange uriParsesSpec)) uriParsesCard

/-- THE TIED CARD OF 'watchbilllaw11.UriPrints'. -/
def uriPrintsCard : Claim7 := { stood := { row := uriPrintsRow, standIns := [], harness := (true, "4cdfb0f92310acf0b20c46c465d1cbb16b93a6c382adad99c89842d8d6a75511"), looks := true }, kinds := [], alts := [], laidByText := true, laidKinds := [.data, .data, .data, .data, .sentinel, .sentinel, .pinned], laidTests := true, laidLooks := .later }
def UriPrintsCardSaid : Prop := Claim7.holds Tryz.pinned (.plain (OpenSpec.ofChange uriPrintsSpec)) uriPrintsCard

/-- THE TIED CARD OF 'watchbilllaw11.UriBack'. -/
def uriBackCard : Claim7 := { stood := { row := uriBackRow, standIns := [], harness := (true, "4cdfb0f92310acf0b20c46c465d1cbb16b93a6c382adad99c89842d8d6a75511"), looks := true }, kinds := [], alts := [], laidByText := true, laidKinds := [.data, .data, .data, .data, .sentinel, .sentinel, .pinned], laidTests := true, laidLooks := .later }
def UriBackCardSaid : Prop := Claim7.holds Tryz.pinned (.plain (OpenSpec.ofChange uriBackSpec)) uriBackCard

/-- THE SECOND FORM's CARD OF 'watchbilllaw11.UriParses'. -/
def uriParsesUptoCard : Claim7 := { stood := { row := uriParsesUptoRow, standIns := [], harness := (true, "4cdfb0f92310acf0b20c46c465d1cbb16b93a6c382adad99c89842d8d6a75511"), looks := true }, kinds := [], alts := [], laidByText := true, laidKinds := [.data, .data, .data, .data, .sentinel, .sentinel, .pinned], laidTests := true, laidLooks := .later }
def UriParsesUptoCardSaid : Prop := Claim7.holds Tryz.pinned (.plain (OpenSpec.upto uriParsesSpec)) uriParsesUptoCard

/-- THE SECOND FORM's CARD OF 'watchbilllaw11.UriPrints'. -/
def uriPrintsUptoCard : Claim7 := { stood := { row := uriPrintsUptoRow, standIns := [], harness := (true, "4cdfb0f92310acf0b20c46c465d1cbb16b93a6c382adad99c89842d8d6a75511"), looks := true }, kinds := [], alts := [], laidByText := true, laidKinds := [.data, .data, .data, .data, .sentinel, .sentinel, .pinned], laidTests := true, laidLooks := .later }
def UriPrintsUptoCardSaid : Prop := Claim7.holds Tryz.pinned (.plain (OpenSpec.upto uriPrintsSpec)) uriPrintsUptoCard

/-- THE SECOND FORM's CARD OF 'watchbilllaw11.UriBack'. -/
def uriBackUptoCard : Claim7 := { stood := { row := uriBackUptoRow, standIns := [], harness := (true, "4cdfb0f92310acf0b20c46c465d1cbb16b93a6c382adad99c89842d8d6a75511"), looks := true }, kinds := [], alts := [], laidByText := true, laidKinds := [.data, .data, .data, .data, .sentinel, .sentinel, .pinned], laidTests := true, laidLooks := .later }
def UriBackUptoCardSaid : Prop := Claim7.holds Tryz.pinned (.plain (OpenSpec.upto uriBackSpec)) uriBackUptoCard
end Rows
end Go.Proofs.YtbdamneophbnnaaGreatDoor
