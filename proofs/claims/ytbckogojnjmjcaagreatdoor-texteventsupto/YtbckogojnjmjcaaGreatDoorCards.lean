/-
  DERIVED. GIVEN WITH THE SEED: THE CARDS: each row of YtbckogojnjmjcaaGreatDoorRows.lean that lists a variable, with what it lists TIED to the program's text (the seventh form; the later family's looks); each row that meets fmt, with fmt's text TOLD by the authors' own Lean function (tested against real Go, not proved from fmt's source: count such statements apart). THE CARD IS WHAT COUNTS. Prove the row's statement (the work); the ties are given (YtbckogojnjmjcaaGreatDoorTie.lean); close each card by the builder's one call (the guide's Derived/Test/ToyasCard.lean, 'card_holds'). Laid BY PROGRAM, IN A SANDBOX (cutbox-door.mjs). By AI agents, Wed Nov 11 2026. No macro, syntax, notation, axiom, sorry.
-/
import Derived.Test.YtbckogojnjmjcaaGreatDoorRows
import GoSem.ClaimSeven
namespace Go.Proofs.YtbckogojnjmjcaaGreatDoor
namespace Rows

/-- THE TIED CARD OF 'synodlaw17.TextWords'. -/
def textWordsCard : Claim7 := { stood := { row := textWordsRow, standIns := [], harness := (true, "20ccccf8186b5013efef74a2d9bab213903fdb2d4f0b8ff3088e04ac47d0efd9"), looks := true }, kinds := [], alts := [], laidByText := true, laidKinds := [.data, .data, .data, .data, .sentinel, .sentinel, .pinned], laidTests := true, laidLooks := .later }
def TextWordsCardSaid : Prop := Claim7.holds Tryz.pinned (.plain (OpenSpec.ofChange textWordsSpec)) textWordsCard

/-- THE TIED CARD OF 'synodlaw17.TextActs'. -/
def textActsCard : Claim7 := { stood := { row := textActsRow, standIns := [], harness := (true, "20ccccf8186b5013efef74a2d9bab213903fdb2d4f0b8ff3088e04ac47d0efd9"), looks := true }, kinds := [], alts := [], laidByText := true, laidKinds := [.data, .data, .data, .data, .sentinel, .sentinel, .pinned], laidTests := true, laidLooks := .later }
def TextActsCardSaid : Prop := Claim7.holds Tryz.pinned (.plain (OpenSpec.ofChange textActsSpec)) textActsCard

/-- THE TIED CARD OF 'synodlaw17.TextOpts'. -/
def textOptsCard : Claim7 := { stood := { row := textOptsRow, standIns := [], harness := (true, "20ccccf8186b5013efef74a2d9bab213903fdb2d4f0b8ff3088e04ac47d0efd9"), looks := true }, kinds := [], alts := [], laidByText := true, laidKinds := [.data, .data, .data, .data, .sentinel, .sentinel, .pinned], laidTests := true, laidLooks := .later }
def TextOptsCardSaid : Prop := Claim7.holds Tryz.pinned (.plain (OpenSpec.ofChange textOptsSpec)) textOptsCard

/-- THE TIED CARD OF 'synodlaw17.TextEvents'. -/
def textEventsCard : Claim7 := { stood := { row := textEventsRow, standIns := [], harness := (true, "20ccccf8186b5013efef74a2d9bab213903fdb2d4f0b8ff3088e04ac47d0efd9"), looks := true }, kinds := [], alts := [], laidByText := true, laidKinds := [.data, .data, .data, .data, .sentinel, .sentinel, .pinned], laidTests := true, laidLooks := .later }
def TextEventsCardSaid : Prop := Claim7.holds Tryz.pinned (.plain (OpenSpec.ofChange textEventsSpec)) textEventsCard

/-- THE SECOND FORM's CARD OF 'synodlaw17.TextWords'. -/
def textWordsUptoCard : Claim7 := { stood := { row := textWordsUptoRow, standIns := [], harness := (true, "20ccccf8186b5013efef74a2d9bab213903fdb2d4f0b8ff3088e04ac47d0efd9"), looks := true }, kinds := [], alts := [], laidByText := true, laidKinds := [.data, .data, .data, .data, .sentinel, .sentinel, .pinned], laidTests := true, laidLooks := .later }
def TextWordsUptoCardSaid : Prop := Claim7.holds Tryz.pinned (.plain (OpenSpec.upto textWordsSpec)) textWordsUptoCard

/-- THE SECOND FORM's CARD OF 'synodlaw17.TextActs'. -/
def textActsUptoCard : Claim7 := { stood := { row := textActsUptoRow, standIns := [], harness := (true, "20ccccf8186b5013efef74a2d9bab213903fdb2d4f0b8ff3088e04ac47d0efd9"), looks := true }, kinds := [], alts := [], laidByText := true, laidKinds := [.data, .data, .data, .data, .sentinel, .sentinel, .pinned], laidTests := true, laidLooks := .later }
def TextActsUptoCardSaid : Prop := Claim7.holds Tryz.pinned (.plain (OpenSpec.upto textActsSpec)) textActsUptoCard

/-- THE SECOND FORM's CARD OF 'synodlaw17.TextOpts'. -/
def textOptsUptoCard : Claim7 := { stood := { row := textOptsUptoRow, standIns := [], harness := (true, "20ccccf8186b5013efef74a2d9bab213903fdb2d4f0b8ff3088e04ac47d0efd9"), looks := true }, kinds := [], alts := [], laidByText := true, laidKinds := [.data, .data, .data, .data, .sentinel, .sentinel, .pinned], laidTests := true, laidLooks := .later }
def TextOptsUptoCardSaid : Prop := Claim7.holds Tryz.pinned (.plain (OpenSpec.upto textOptsSpec)) textOptsUptoCard

/-- THE SECOND FORM's CARD OF 'synodlaw17.TextEvents'. -/
def textEventsUptoCard : Claim7 := { stood := { row := textEventsUptoRow, standIns := [], harness := (true, "20ccccf8186b5013efef74a2d9bab213903fdb2d4f0b8ff3088e04ac47d0efd9"), looks := true }, kinds := [], alts := [], laidByText := true, laidKinds := [.data, .data, .data, .data, .sentinel, .sentinel, .pinned], laidTests := true, laidLooks := .later }
def TextEventsUptoCardSaid : Prop := Claim7.holds Tryz.pinned (.plain (OpenSpec.upto textEventsSpec)) textEventsUptoCard
end Rows
end Go.Proofs.YtbckogojnjmjcaaGreatDoor
