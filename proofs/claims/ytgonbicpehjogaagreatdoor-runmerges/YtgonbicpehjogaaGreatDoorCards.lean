/-
  DERIVED. GIVEN WITH THE SEED: THE CARDS: each row of YtgonbicpehjogaaGreatDoorRows.lean that lists a variable, with what it lists TIED to the program's text (the seventh form; the later family's looks); each row that meets fmt, with fmt's text TOLD by the authors' own Lean function (tested against real Go, not proved from fmt's source: count such statements apart). THE CARD IS WHAT COUNTS. Prove the row's statement (the work); the ties are given (YtgonbicpehjogaaGreatDoorTie.lean); close each card by the builder's one call (the guide's Derived/Test/ToyasCard.lean, 'card_holds'). Laid BY PROGRAM, IN A SANDBOX (cutbox-door.mjs). By AI agents, Wed Nov 11 2026. No macro, syntax, notation, axiom, sorry.
-/
import Derived.Test.YtgonbicpehjogaaGreatDoorRows
import GoSem.ClaimSeven
namespace Go.Proofs.YtgonbicpehjogaaGreatDoor
namespace Rows

/-- THE TIED CARD OF 'synodlaw13.RunMerges'. -/
def runMergesCard : Claim7 := { stood := { row := runMergesRow, standIns := [], harness := (true, "bcba00b6c8f95d0613b59f464f90881c67d5b62b32b2dd96d29b872186073dec"), looks := true }, kinds := [], alts := [], goes := true, laidByText := true, laidKinds := [.data, .data, .data, .sentinel, .sentinel], laidTests := true, laidLooks := .later }
def RunMergesCardSaid : Prop := Claim7.holds Tryz.pinned (.plain (OpenSpec.ofChange runMergesSpec)) runMergesCard

/-- THE SECOND FORM's CARD OF 'synodlaw13.RunMerges'. -/
def runMergesUptoCard : Claim7 := { stood := { row := runMergesUptoRow, standIns := [], harness := (true, "bcba00b6c8f95d0613b59f464f90881c67d5b62b32b2dd96d29b872186073dec"), looks := true }, kinds := [], alts := [], goes := true, laidByText := true, laidKinds := [.data, .data, .data, .sentinel, .sentinel], laidTests := true, laidLooks := .later }
def RunMergesUptoCardSaid : Prop := Claim7.holds Tryz.pinned (.plain (OpenSpec.upto runMergesSpec)) runMergesUptoCard
end Rows
end Go.Proofs.YtgonbicpehjogaaGreatDoor
