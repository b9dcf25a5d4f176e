/-
  DERIVED. GIVEN WITH THE SEED: THE CARDS: each row of YtleheaffipokfaaDoorRows.lean that lists a variable, with what it lists TIED to the program's text (the seventh form; the later family's looks); each row that meets fmt, with fmt's text TOLD by the authors' own Lean function (tested against real Go, not proved from fmt's source: count such statements apart). THE CARD IS WHAT COUNTS. Prove the row's statement (the work); the ties are given (YtleheaffipokfaaDoorTie.lean); close each card by the builder's one call (the guide's Derived/Test/ToyasCard.lean, 'card_holds'). Laid BY PROGRAM, IN A SANDBOX (cutbox-door.mjs). By AI agents, Wed Nov 11 2026. No macro, syntax, notation, axiom, sorry.
-/
import Derived.Test.YtleheaffipokfaaDoorRows
import GoSem.ClaimSeven
namespace Go.Proofs.YtleheaffipokfaaDoor
namespace Rows

/-- THE TIED CARD OF 'roundsmanlaw9.FlowProves'. -/
def flowProvesCard : Claim7 := { stood := { row := flowProvesRow, standIns := [], harness := (true, "3652fbade5a3db0d8facbe72fe7e0b7c00928fc2c7ef96ec73ddf35cf54003bd"), looks := true }, kinds := [], alts := [], laidByText := true, laidKinds := [.handle], laidTests := true, laidLooks := .later }
def FlowProvesCardSaid : Prop := Claim7.holds Tryd.pinned (.plain (OpenSpec.ofChange flowProvesSpec)) flowProvesCard

/-- THE SECOND FORM's CARD OF 'roundsmanlaw9.FlowProves'. -/
def flowProvesUptoCard : Claim7 := { stood := { row := flowProvesUptoRow, standIns := [], harness := (true, "3652fbade5a3db0d8facbe72fe7e0b7c00928fc2c7ef96ec73ddf35cf54003bd"), looks := true }, kinds := [], alts := [], laidByText := true, laidKinds := [.handle], laidTests := true, laidLooks := .later }
def FlowProvesUptoCardSaid : Prop := Claim7.holds Tryd.pinned (.plain (OpenSpec.upto flowProvesSpec)) flowProvesUptoCard
end Rows
end Go.Proofs.YtleheaffipokfaaDoor
