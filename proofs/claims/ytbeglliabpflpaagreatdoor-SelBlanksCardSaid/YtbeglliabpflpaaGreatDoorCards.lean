/-
  DERIVED. GIVEN WITH THE SEED: THE CARDS: each row of YtbeglliabpflpaaGreatDoorRows.lean that lists a variable, with what it lists TIED to the program's text (the seventh form; the later family's looks); each row that meets fmt, with fmt's text TOLD by the authors' own Lean function (tested against real Go, not proved from fmt's source: count such statements apart). THE CARD IS WHAT COUNTS. Prove the row's statement (the work); the ties are given (YtbeglliabpflpaaGreatDoorTie.lean); close each card by the builder's one call (the guide's Derived/Test/ToyasCard.lean, 'card_holds'). Laid BY PROGRAM, IN A SANDBOX (cutbox-door.mjs). By AI agents, Wed Nov 11 2026. No macro, syntax, notation, axiom, sorry.
-/
import Derived.Test.YtbeglliabpflpaaGreatDoorRows
import GoSem.ClaimSeven
namespace Go.Proofs.YtbeglliabpflpaaGreatDoor
namespace Rows

/-- THE TIED CARD OF 'watchbilllaw10.SelBinds'. -/
def selBindsCard : Claim7 := { stood := { row := selBindsRow, standIns := [], harness := (true, "52df4e450cc307210280d8593f9f2800c9f7eb5c0b85faa5cb84ad1189be2ec4"), looks := true }, kinds := [], alts := [], laidByText := true, laidKinds := [.data, .data, .data, .data, .sentinel, .sentinel, .pinned], laidTests := true, laidLooks := .later }
def SelBindsCardSaid : Prop := Claim7.holds Tryz.pinned (.plain (OpenSpec.ofChange selBindsSpec)) selBindsCard

/-- THE TIED CARD OF 'watchbilllaw10.SelPrints'. -/
def selPrintsCard : Claim7 := { stood := { row := selPrintsRow, standIns := [], harness := (true, "52df4e450cc307210280d8593f9f2800c9f7eb5c0b85faa5cb84ad1189be2ec4"), looks := true }, kinds := [], alts := [], laidByText := true, laidKinds := [.data, .data, .data, .data, .sentinel, .sentinel, .pinned], laidTests := true, laidLooks := .later }
def SelPrintsCardSaid : Prop := Claim7.holds Tryz.pinned (.plain (OpenSpec.ofChange selPrintsSpec)) selPrintsCard

/-- THE TIED CARD OF 'watchbilllaw10.SelBack'. -/
def selBackCard : Claim7 := { stood := { row := selBackRow, standIns := [], harness := (true, "52df4e450cc307210280d8593f9f2800c9f7eb5c0b85faa5cb84ad1189be2ec4"), looks := true }, kinds := [], alts := [], laidByText := true, laidKinds := [.data, .data, .data, .data, .sentinel, .sentinel, .pinned], laidTests := true, laidLooks := .later }
def SelBackCardSaid : Prop := Claim7.holds Tryz.pinned (.plain (OpenSpec.ofChange selBackSpec)) selBackCard

/-- THE TIED CARD OF 'watchbilllaw10.SelBlanks'. -/
def selBlanksCard : Claim7 := { stood := { row := selBlanksRow, standIns := [], harness := (true, "52df4e450cc307210280d8593f9f2800c9f7eb5c0b85faa5cb84ad1189be2ec4"), looks := true }, kinds := [], alts := [], laidByText := true, laidKinds := [.data, .data, .data, .data, .sentinel, .sentinel, .pinned], laidTests := true, laidLooks := .later }
def SelBlanksCardSaid : Prop := Claim7.holds Tryz.pinned (.plain (OpenSpec.ofChange selBlanksSpec)) selBlanksCard

/-- THE SECOND FORM's CARD OF 'watchbilllaw10.SelBinds'. -/
def selBindsUptoCard : Claim7 := { stood := { row := selBindsUptoRow, standIns := [], harness := (true, "52df4e450cc307210280d8593f9f2800c9f7eb5c0b85faa5cb84ad1189be2ec4"), looks := true }, kinds := [], alts := [], laidByText := true, laidKinds := [.data, .data, .data, .data, .sentinel, .sentinel, .pinned], laidTests := true, laidLooks := .later }
def SelBindsUptoCardSaid : Prop := Claim7.holds Tryz.pinned (.plain (OpenSpec.upto selBindsSpec)) selBindsUptoCard

/-- THE SECOND FORM's CARD OF 'watchbilllaw10.SelPrints'. -/
def selPrintsUptoCard : Claim7 := { stood := { row := selPrintsUptoRow, standIns := [], harness := (true, "52df4e450cc307210280d8593f9f2800c9f7eb5c0b85faa5cb84ad1189be2ec4"), looks := true }, kinds := [], alts := [], laidByText := true, laidKinds := [.data, .data, .data, .data, .sentinel, .sentinel, .pinned], laidTests := true, laidLooks := .later }
def SelPrintsUptoCardSaid : Prop := Claim7.holds Tryz.pinned (.plain (OpenSpec.upto selPrintsSpec)) selPrintsUptoCard

/-- THE SECOND FORM's CARD OF 'watchbilllaw10.SelBack'. -/
def selBackUptoCard : Claim7 := { stood := { row := selBackUptoRow, standIns := [], harness := (true, "52df4e450cc307210280d8593f9f2800c9f7eb5c0b85faa5cb84ad1189be2ec4"), looks := true }, kinds := [], alts := [], laidByText := true, laidKinds := [.data, .data, .data, .data, .sentinel, .sentinel, .pinned], laidTests := true, laidLooks := .later }
def SelBackUptoCardSaid : Prop := Claim7.holds Tryz.pinned (.plain (OpenSpec.upto selBackSpec)) selBackUptoCard

/-- THE SECOND FORM's CARD OF 'watchbilllaw10.SelBlanks'. -/
def selBlanksUptoCard : Claim7 := { stood := { row := selBlanksUptoRow, standIns := [], harness := (true, "52df4e450cc307210280d8593f9f2800c9f7eb5c0b85faa5cb84ad1189be2ec4"), looks := true }, kinds := [], alts := [], laidByText := true, laidKinds := [.data, .data, .data, .data, .sentinel, .sentinel, .pinned], laidTests := true, laidLooks := .later }
def SelBlanksUptoCardSaid : Prop := Claim7.holds Tryz.pinned (.plain (OpenSpec.upto selBlanksSpec)) selBlanksUptoCard
end Rows
end Go.Proofs.YtbeglliabpflpaaGreatDoor
