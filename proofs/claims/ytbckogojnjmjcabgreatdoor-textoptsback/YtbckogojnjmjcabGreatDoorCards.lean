/-
  DERIVED. GIVEN WITH THE SEED: THE CARDS: each row of YtbckogojnjmjcabGreatDoorRows.lean that lists a variable, with what it lists TIED to the program's text (the seventh form; the later family's looks); each row that meets fmt, with fmt's text TOLD by the authors' own Lean function (tested against real Go, not proved from fmt's source: count such statements apart). THE CARD IS WHAT COUNTS. Prove the row's statement (the work); the ties are given (YtbckogojnjmjcabGreatDoorTie.lean); close each card by the builder's one call (the guide's Derived/Test/ToyasCard.lean, 'card_holds'). Laid BY PROGRAM, IN A SANDBOX (cutbox-door.mjs). By AI agents, Wed Nov 11 2026. No macro, syntax, notation, axiom, sorry.
-/
import Derived.Test.YtbckogojnjmjcabGreatDoorRows
import GoSem.ClaimSeven
namespace Go.Proofs.YtbckogojnjmjcabGreatDoor
namespace Rows

/-- THE TIED CARD OF 'synodlaw17.TextOptsBack'. -/
def textOptsBackCard : Claim7 := { stood := { row := textOptsBackRow, standIns := [], harness := (true, "421eb261c2a51b129d0fc0c3bbba26a32e2d1d2d49c707f5041f15c9e8fe649e"), looks := true }, kinds := [], alts := [], laidByText := true, laidKinds := [.data, .data, .data, .data, .sentinel, .sentinel, .pinned], laidTests := true, laidLooks := .later }
def TextOptsBackCardSaid : Prop := Claim7.holds Tryz.pinned (.plain (OpenSpec.ofChange textOptsBackSpec)) textOptsBackCard

/-- THE SECOND FORM's CARD OF 'synodlaw17.TextOptsBack'. -/
def textOptsBackUptoCard : Claim7 := { stood := { row := textOptsBackUptoRow, standIns := [], harness := (true, "421eb261c2a51b129d0fc0c3bbba26a32e2d1d2d49c707f5041f15c9e8fe649e"), looks := true }, kinds := [], alts := [], laidByText := true, laidKinds := [.data, .data, .data, .data, .sentinel, .sentinel, .pinned], laidTests := true, laidLooks := .later }
def TextOptsBackUptoCardSaid : Prop := Claim7.holds Tryz.pinned (.plain (OpenSpec.upto textOptsBackSpec)) textOptsBackUptoCard
end Rows
end Go.Proofs.YtbckogojnjmjcabGreatDoor
