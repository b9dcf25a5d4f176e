/-
  DERIVED. GIVEN WITH THE SEED: THE CARDS: each row of YthfljimgpcignaaGreatDoorRows.lean that lists a variable, with what it lists TIED to the program's text (the seventh form; the later family's looks); each row that meets fmt, with fmt's text TOLD by the authors' own Lean function (tested against real Go, not proved from fmt's source: count such statements apart). THE CARD IS WHAT COUNTS. Prove the row's statement (the work); the ties are given (YthfljimgpcignaaGreatDoorTie.lean); close each card by the builder's one call (the guide's Derived/Test/ToyasCard.lean, 'card_holds'). Laid BY PROGRAM, IN A SANDBOX (cutbox-door.mjs). By AI agents, Wed Nov 11 2026. No macro, syntax, notation, axiom, sorry.
-/
import Derived.Test.YthfljimgpcignaaGreatDoorRows
import GoSem.ClaimSeven
namespace Go.Proofs.YthfljimgpcignaaGreatDoor
namespace Rows

/-- THE TIED CARD OF 'roundsmanlaw11.CutFair'. -/
def cutFairCard : Claim7 := { stood := { row := cutFairRow, standIns := [], harness := (true, "bc274f5bb62880668a1fadb9923d5a93070d3a9b072f58696fa0913a6fedc684"), looks := true }, kinds := [], alts := [], laidByText := true, laidKinds := [.handle], laidTests := true, laidLooks := .later }
def CutFairCardSaid : Prop := Claim7.holds Tryz.pinned (.plain (OpenSpec.ofChange cutFairSpec)) cutFairCard

/-- THE SECOND FORM's CARD OF 'roundsmanlaw11.CutFair'. -/
def cutFairUptoCard : Claim7 := { stood := { row := cutFairUptoRow, standIns := [], harness := (true, "bc274f5bb62880668a1fadb9923d5a93070d3a9b072f58696fa0913a6fedc684"), looks := true }, kinds := [], alts := [], laidByText := true, laidKinds := [.handle], laidTests := true, laidLooks := .later }
def CutFairUptoCardSaid : Prop := Claim7.holds Tryz.pinned (.plain (OpenSpec.upto cutFairSpec)) cutFairUptoCard
end Rows
end Go.Proofs.YthfljimgpcignaaGreatDoor
