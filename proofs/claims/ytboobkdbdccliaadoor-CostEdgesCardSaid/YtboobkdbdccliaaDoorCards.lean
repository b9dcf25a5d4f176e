/-
  DERIVED. GIVEN WITH THE SEED: THE CARDS: each row of YtboobkdbdccliaaDoorRows.lean that lists a variable, with what it lists TIED to the program's text (the seventh form; the later family's looks); each row that meets fmt, with fmt's text TOLD by the authors' own Lean function (tested against real Go, not proved from fmt's source: count such statements apart). THE CARD IS WHAT COUNTS. Prove the row's statement (the work); the ties are given (YtboobkdbdccliaaDoorTie.lean); close each card by the builder's one call (the guide's Derived/Test/ToyasCard.lean, 'card_holds'). Laid BY PROGRAM, IN A SANDBOX (cutbox-door.mjs). By AI agents, Wed Nov 11 2026. No macro, syntax, notation, axiom, sorry.
-/
import Derived.Test.YtboobkdbdccliaaDoorRows
import GoSem.ClaimSeven
namespace Go.Proofs.YtboobkdbdccliaaDoor
namespace Rows

/-- THE TIED CARD OF 'roundsmanlaw1.CostAny'. -/
def costAnyCard : Claim7 := { stood := { row := costAnyRow, standIns := [], harness := (true, "66e61049dd2dfa129612407ddb7412ad0f93c181bc7351f98fa33f961727b4a8"), looks := true }, kinds := [], alts := [], laidByText := true, laidKinds := [.data, .data, .data, .handle], laidTests := true, laidLooks := .later }
def CostAnyCardSaid : Prop := Claim7.holds Tryd.pinned (.plain (OpenSpec.ofChange costAnySpec)) costAnyCard

/-- THE TIED CARD OF 'roundsmanlaw1.CostReads'. -/
def costReadsCard : Claim7 := { stood := { row := costReadsRow, standIns := [], harness := (true, "66e61049dd2dfa129612407ddb7412ad0f93c181bc7351f98fa33f961727b4a8"), looks := true }, kinds := [], alts := [], laidByText := true, laidKinds := [.data, .data, .data, .handle], laidTests := true, laidLooks := .later }
def CostReadsCardSaid : Prop := Claim7.holds Tryd.pinned (.plain (OpenSpec.ofChange costReadsSpec)) costReadsCard

/-- THE TIED CARD OF 'roundsmanlaw1.CostTurns'. -/
def costTurnsCard : Claim7 := { stood := { row := costTurnsRow, standIns := [], harness := (true, "66e61049dd2dfa129612407ddb7412ad0f93c181bc7351f98fa33f961727b4a8"), looks := true }, kinds := [], alts := [], laidByText := true, laidKinds := [.data, .data, .data, .handle], laidTests := true, laidLooks := .later }
def CostTurnsCardSaid : Prop := Claim7.holds Tryd.pinned (.plain (OpenSpec.ofChange costTurnsSpec)) costTurnsCard

/-- THE TIED CARD OF 'roundsmanlaw1.CostBack'. -/
def costBackCard : Claim7 := { stood := { row := costBackRow, standIns := [], harness := (true, "66e61049dd2dfa129612407ddb7412ad0f93c181bc7351f98fa33f961727b4a8"), looks := true }, kinds := [], alts := [], laidByText := true, laidKinds := [.data, .data, .data, .handle], laidTests := true, laidLooks := .later }
def CostBackCardSaid : Prop := Claim7.holds Tryd.pinned (.plain (OpenSpec.ofChange costBackSpec)) costBackCard

/-- THE TIED CARD OF 'roundsmanlaw1.CostLeast'. -/
def costLeastCard : Claim7 := { stood := { row := costLeastRow, standIns := [], harness := (true, "66e61049dd2dfa129612407ddb7412ad0f93c181bc7351f98fa33f961727b4a8"), looks := true }, kinds := [], alts := [], laidByText := true, laidKinds := [.data, .data, .data, .handle], laidTests := true, laidLooks := .later }
def CostLeastCardSaid : Prop := Claim7.holds Tryd.pinned (.plain (OpenSpec.ofChange costLeastSpec)) costLeastCard

/-- THE TIED CARD OF 'roundsmanlaw1.CostEdges'. -/
def costEdgesCard : Claim7 := { stood := { row := costEdgesRow, standIns := [], harness := (true, "66e61049dd2dfa129612407ddb7412ad0f93c181bc7351f98fa33f961727b4a8"), looks := true }, kinds := [], alts := [], laidByText := true, laidKinds := [.data, .data, .data, .handle], laidTests := true, laidLooks := .later }
def CostEdgesCardSaid : Prop := Claim7.holds Tryd.pinned (.plain (OpenSpec.ofChange costEdgesSpec)) costEdgesCard

/-- THE SECOND FORM's CARD OF 'roundsmanlaw1.CostAny'. -/
def costAnyUptoCard : Claim7 := { stood := { row := costAnyUptoRow, standIns := [], harness := (true, "66e61049dd2dfa129612407ddb7412ad0f93c181bc7351f98fa33f961727b4a8"), looks := true }, kinds := [], alts := [], laidByText := true, laidKinds := [.data, .data, .data, .handle], laidTests := true, laidLooks := .later }
def CostAnyUptoCardSaid : Prop := Claim7.holds Tryd.pinned (.plain (OpenSpec.upto costAnySpec)) costAnyUptoCard

/-- THE SECOND FORM's CARD OF 'roundsmanlaw1.CostReads'. -/
def costReadsUptoCard : Claim7 := { stood := { row := costReadsUptoRow, standIns := [], harness := (true, "66e61049dd2dfa129612407ddb7412ad0f93c181bc7351f98fa33f961727b4a8"), looks := true }, kinds := [], alts := [], laidByText := true, laidKinds := [.data, .data, .data, .handle], laidTests := true, laidLooks := .later }
def CostReadsUptoCardSaid : Prop := Claim7.holds Tryd.pinned (.plain (OpenSpec.upto costReadsSpec)) costReadsUptoCard

/-- THE SECOND FORM's CARD OF 'roundsmanlaw1.CostTurns'. -/
def costTurnsUptoCard : Claim7 := { stood := { row := costTurnsUptoRow, standIns := [], harness := (true, "66e61049dd2dfa129612407ddb7412ad0f93c181bc7351f98fa33f961727b4a8"), looks := true }, kinds := [], alts := [], laidByText := true, laidKinds := [.data, .data, .data, .handle], laidTests := true, laidLooks := .later }
def CostTurnsUptoCardSaid : Prop := Claim7.holds Tryd.pinned (.plain (OpenSpec.upto costTurnsSpec)) costTurnsUptoCard

/-- THE SECOND FORM's CARD OF 'roundsmanlaw1.CostBack'. -/
def costBackUptoCard : Claim7 := { stood := { row := costBackUptoRow, standIns := [], harness := (true, "66e61049dd2dfa129612407ddb7412ad0f93c181bc7351f98fa33f961727b4a8"), looks := true }, kinds := [], alts := [], laidByText := true, laidKinds := [.data, .data, .data, .handle], laidTests := true, laidLooks := .later }
def CostBackUptoCardSaid : Prop := Claim7.holds Tryd.pinned (.plain (OpenSpec.upto costBackSpec)) costBackUptoCard

/-- THE SECOND FORM's CARD OF 'roundsmanlaw1.CostLeast'. -/
def costLeastUptoCard : Claim7 := { stood := { row := costLeastUptoRow, standIns := [], harness := (true, "66e61049dd2dfa129612407ddb7412ad0f93c181bc7351f98fa33f961727b4a8"), looks := true }, kinds := [], alts := [], laidByText := true, laidKinds := [.data, .data, .data, .handle], laidTests := true, laidLooks := .later }
def CostLeastUptoCardSaid : Prop := Claim7.holds Tryd.pinned (.plain (OpenSpec.upto costLeastSpec)) costLeastUptoCard

/-- THE SECOND FORM's CARD OF 'roundsmanlaw1.CostEdges'. -/
def costEdgesUptoCard : Claim7 := { stood := { row := costEdgesUptoRow, standIns := [], harness := (true, "66e61049dd2dfa129612407ddb7412ad0f93c181bc7351f98fa33f961727b4a8"), looks := true }, kinds := [], alts := [], laidByText := true, laidKinds := [.data, .data, .data, .handle], laidTests := true, laidLooks := .later }
def CostEdgesUptoCardSaid : Prop := Claim7.holds Tryd.pinned (.plain (OpenSpec.upto costEdgesSpec)) costEdgesUptoCard
end Rows
end Go.Proofs.YtboobkdbdccliaaDoor
