/-
  DERIVED. GIVEN WITH THE SEED: THE CARDS: each row of YtblongcnmpdihaaDoorRows.lean that lists a variable, with what it lists TIED to the program's text (the seventh form; the later family's looks); each row that meets fmt, with fmt's text TOLD by the authors' own Lean function (tested against real Go, not proved from fmt's source: count such statements apart). THE CARD IS WHAT COUNTS. Prove the row's statement (the work); the ties are given (YtblongcnmpdihaaDoorTie.lean); close each card by the builder's one call (the guide's Derived/Test/ToyasCard.lean, 'card_holds'). Laid BY PROGRAM, IN A SANDBOX (cutbox-door.mjs). By AI agents, Wed Nov 11 2026. No macro, syntax, notation, axiom, sorry.
-/
import Derived.Test.YtblongcnmpdihaaDoorRows
import GoSem.ClaimSeven
namespace Go.Proofs.YtblongcnmpdihaaDoor
namespace Rows

/-- THE TIED CARD OF 'watchbilllaw07.FieldPrints'. -/
def fieldPrintsCard : Claim7 := { stood := { row := fieldPrintsRow, standIns := [], harness := (true, "6e18a57d83d3fa72ae9deaeed289c6e1a2f16e0c1abef1ba4756a53e591d1a84"), looks := false }, kinds := [], alts := [], laidByText := true, laidKinds := [.data, .listed, .data, .pinned], laidTests := true, laidLooks := .later }
def FieldPrintsCardSaid : Prop := Claim7.holds Tryd.pinned (.plain (OpenSpec.ofChange fieldPrintsSpec)) fieldPrintsCard

/-- THE TIED CARD OF 'watchbilllaw07.FieldBack'. -/
def fieldBackCard : Claim7 := { stood := { row := fieldBackRow, standIns := [], harness := (true, "6e18a57d83d3fa72ae9deaeed289c6e1a2f16e0c1abef1ba4756a53e591d1a84"), looks := false }, kinds := [], alts := [], laidByText := true, laidKinds := [.data, .listed, .data, .pinned], laidTests := true, laidLooks := .later }
def FieldBackCardSaid : Prop := Claim7.holds Tryd.pinned (.plain (OpenSpec.ofChange fieldBackSpec)) fieldBackCard

/-- THE TIED CARD OF 'watchbilllaw07.FieldTypeBack'. -/
def fieldTypeBackCard : Claim7 := { stood := { row := fieldTypeBackRow, standIns := [], harness := (true, "6e18a57d83d3fa72ae9deaeed289c6e1a2f16e0c1abef1ba4756a53e591d1a84"), looks := false }, kinds := [], alts := [], laidByText := true, laidKinds := [.data, .listed, .data, .pinned], laidTests := true, laidLooks := .later }
def FieldTypeBackCardSaid : Prop := Claim7.holds Tryd.pinned (.plain (OpenSpec.ofChange fieldTypeBackSpec)) fieldTypeBackCard

/-- THE TIED CARD OF 'watchbilllaw07.FieldFolds'. -/
def fieldFoldsCard : Claim7 := { stood := { row := fieldFoldsRow, standIns := [], harness := (true, "6e18a57d83d3fa72ae9deaeed289c6e1a2f16e0c1abef1ba4756a53e591d1a84"), looks := false }, kinds := [], alts := [], laidByText := true, laidKinds := [.data, .listed, .data, .pinned], laidTests := true, laidLooks := .later }
def FieldFoldsCardSaid : Prop := Claim7.holds Tryd.pinned (.plain (OpenSpec.ofChange fieldFoldsSpec)) fieldFoldsCard

/-- THE SECOND FORM's CARD OF 'watchbilllaw07.FieldPrints'. -/
def fieldPrintsUptoCard : Claim7 := { stood := { row := fieldPrintsUptoRow, standIns := [], harness := (true, "6e18a57d83d3fa72ae9deaeed289c6e1a2f16e0c1abef1ba4756a53e591d1a84"), looks := false }, kinds := [], alts := [], laidByText := true, laidKinds := [.data, .listed, .data, .pinned], laidTests := true, laidLooks := .later }
def FieldPrintsUptoCardSaid : Prop := Claim7.holds Tryd.pinned (.plain (OpenSpec.upto fieldPrintsSpec)) fieldPrintsUptoCard

/-- THE SECOND FORM's CARD OF 'watchbilllaw07.FieldBack'. -/
def fieldBackUptoCard : Claim7 := { stood := { row := fieldBackUptoRow, standIns := [], harness := (true, "6e18a57d83d3fa72ae9deaeed289c6e1a2f16e0c1abef1ba4756a53e591d1a84"), looks := false }, kinds := [], alts := [], laidByText := true, laidKinds := [.data, .listed, .data, .pinned], laidTests := true, laidLooks := .later }
def FieldBackUptoCardSaid : Prop := Claim7.holds Tryd.pinned (.plain (OpenSpec.upto fieldBackSpec)) fieldBackUptoCard

/-- THE SECOND FORM's CARD OF 'watchbilllaw07.FieldTypeBack'. -/
def fieldTypeBackUptoCard : Claim7 := { stood := { row := fieldTypeBackUptoRow, standIns := [], harness := (true, "6e18a57d83d3fa72ae9deaeed289c6e1a2f16e0c1abef1ba4756a53e591d1a84"), looks := false }, kinds := [], alts := [], laidByText := true, laidKinds := [.data, .listed, .data, .pinned], laidTests := true, laidLooks := .later }
def FieldTypeBackUptoCardSaid : Prop := Claim7.holds Tryd.pinned (.plain (OpenSpec.upto fieldTypeBackSpec)) fieldTypeBackUptoCard

/-- THE SECOND FORM's CARD OF 'watchbilllaw07.FieldFolds'. -/
def fieldFoldsUptoCard : Claim7 := { stood := { row := fieldFoldsUptoRow, standIns := [], harness := (true, "6e18a57d83d3fa72ae9deaeed289c6e1a2f16e0c1abef1ba4756a53e591d1a84"), looks := false }, kinds := [], alts := [], laidByText := true, laidKinds := [.data, .listed, .data, .pinned], laidTests := true, laidLooks := .later }
def FieldFoldsUptoCardSaid : Prop := Claim7.holds Tryd.pinned (.plain (OpenSpec.upto fieldFoldsSpec)) fieldFoldsUptoCard
end Rows
end Go.Proofs.YtblongcnmpdihaaDoor
