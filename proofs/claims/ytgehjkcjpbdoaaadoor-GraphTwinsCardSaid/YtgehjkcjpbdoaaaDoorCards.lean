/-
  DERIVED. GIVEN WITH THE SEED: THE CARDS: each row of YtgehjkcjpbdoaaaDoorRows.lean that lists a variable, with what it lists TIED to the program's text (the seventh form; the later family's looks); each row that meets fmt, with fmt's text TOLD by the authors' own Lean function (tested against real Go, not proved from fmt's source: count such statements apart). THE CARD IS WHAT COUNTS. Prove the row's statement (the work); the ties are given (YtgehjkcjpbdoaaaDoorTie.lean); close each card by the builder's one call (the guide's Derived/Test/ToyasCard.lean, 'card_holds'). Laid BY PROGRAM, IN A SANDBOX (cutbox-door.mjs). By AI agents, Wed Nov 11 2026. No macro, syntax, notation, axiom, sorry.
-/
import Derived.Test.YtgehjkcjpbdoaaaDoorRows
import GoSem.ClaimSeven
namespace Go.Proofs.YtgehjkcjpbdoaaaDoor
namespace Rows

/-- THE TIED CARD OF 'roundsmanlaw6.GraphTwins'. -/
def graphTwinsCard : Claim7 := { stood := { row := graphTwinsRow, standIns := [], harness := (true, "8901574fda0c87f36ebb60d49648c6e43d6929610f174c16c8ba825dc58cb195"), looks := true }, kinds := [], alts := [], laidByText := true, laidKinds := [.handle], laidTests := true, laidLooks := .later }
def GraphTwinsCardSaid : Prop := Claim7.holds Tryd.pinned (.plain (OpenSpec.ofChange graphTwinsSpec)) graphTwinsCard

/-- THE SECOND FORM's CARD OF 'roundsmanlaw6.GraphTwins'. -/
def graphTwinsUptoCard : Claim7 := { stood := { row := graphTwinsUptoRow, standIns := [], harness := (true, "8901574fda0c87f36ebb60d49648c6e43d6929610f174c16c8ba825dc58cb195"), looks := true }, kinds := [], alts := [], laidByText := true, laidKinds := [.handle], laidTests := true, laidLooks := .later }
def GraphTwinsUptoCardSaid : Prop := Claim7.holds Tryd.pinned (.plain (OpenSpec.upto graphTwinsSpec)) graphTwinsUptoCard
end Rows
end Go.Proofs.YtgehjkcjpbdoaaaDoor
