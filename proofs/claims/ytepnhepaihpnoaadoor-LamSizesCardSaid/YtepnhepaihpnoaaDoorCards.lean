/-
  DERIVED. GIVEN WITH THE SEED: THE CARDS: each row of YtepnhepaihpnoaaDoorRows.lean that lists a variable, with what it lists TIED to the program's text (the seventh form; the later family's looks); each row that meets fmt, with fmt's text TOLD by the authors' own Lean function (tested against real Go, not proved from fmt's source: count such statements apart). THE CARD IS WHAT COUNTS. Prove the row's statement (the work); the ties are given (YtepnhepaihpnoaaDoorTie.lean); close each card by the builder's one call (the guide's Derived/Test/ToyasCard.lean, 'card_holds'). Laid BY PROGRAM, IN A SANDBOX (cutbox-door.mjs). By AI agents, Wed Nov 11 2026. No macro, syntax, notation, axiom, sorry.
-/
import Derived.Test.YtepnhepaihpnoaaDoorRows
import GoSem.ClaimSeven
namespace Go.Proofs.YtepnhepaihpnoaaDoor
namespace Rows

/-- THE TIED CARD OF 'affiantlaw3.LamRuns'. -/
def lamRunsCard : Claim7 := { stood := { row := lamRunsRow, standIns := [], harness := (true, "38d4d4a6b4d1139569abee9f5176e90782bf485e6bb516ebc1821d944634292b"), looks := false }, kinds := [], alts := [], laidByText := true, laidKinds := [.data, .data], laidTests := true, laidLooks := .later }
def LamRunsCardSaid : Prop := Claim7.holds Tryd.pinned (.plain (OpenSpec.ofChange lamRunsSpec)) lamRunsCard

/-- THE TIED CARD OF 'affiantlaw3.LamTells'. -/
def lamTellsCard : Claim7 := { stood := { row := lamTellsRow, standIns := [], harness := (true, "38d4d4a6b4d1139569abee9f5176e90782bf485e6bb516ebc1821d944634292b"), looks := false }, kinds := [], alts := [], laidByText := true, laidKinds := [.data, .data], laidTests := true, laidLooks := .later }
def LamTellsCardSaid : Prop := Claim7.holds Tryd.pinned (.plain (OpenSpec.ofChange lamTellsSpec)) lamTellsCard

/-- THE TIED CARD OF 'affiantlaw3.LamTurned'. -/
def lamTurnedCard : Claim7 := { stood := { row := lamTurnedRow, standIns := [], harness := (true, "38d4d4a6b4d1139569abee9f5176e90782bf485e6bb516ebc1821d944634292b"), looks := false }, kinds := [], alts := [], laidByText := true, laidKinds := [.data, .data], laidTests := true, laidLooks := .later }
def LamTurnedCardSaid : Prop := Claim7.holds Tryd.pinned (.plain (OpenSpec.ofChange lamTurnedSpec)) lamTurnedCard

/-- THE TIED CARD OF 'affiantlaw3.LamOpens'. -/
def lamOpensCard : Claim7 := { stood := { row := lamOpensRow, standIns := [], harness := (true, "38d4d4a6b4d1139569abee9f5176e90782bf485e6bb516ebc1821d944634292b"), looks := false }, kinds := [], alts := [], laidByText := true, laidKinds := [.data, .data], laidTests := true, laidLooks := .later }
def LamOpensCardSaid : Prop := Claim7.holds Tryd.pinned (.plain (OpenSpec.ofChange lamOpensSpec)) lamOpensCard

/-- THE TIED CARD OF 'affiantlaw3.LamSizes'. -/
def lamSizesCard : Claim7 := { stood := { row := lamSizesRow, standIns := [], harness := (true, "38d4d4a6b4d1139569abee9f5176e90782bf485e6bb516ebc1821d944634292b"), looks := false }, kinds := [], alts := [], laidByText := true, laidKinds := [.data, .data], laidTests := true, laidLooks := .later }
def LamSizesCardSaid : Prop := Claim7.holds Tryd.pinned (.plain (OpenSpec.ofChange lamSizesSpec)) lamSizesCard

/-- THE SECOND FORM's CARD OF 'affiantlaw3.LamRuns'. -/
def lamRunsUptoCard : Claim7 := { stood := { row := lamRunsUptoRow, standIns := [], harness := (true, "38d4d4a6b4d1139569abee9f5176e90782bf485e6bb516ebc1821d944634292b"), looks := false }, kinds := [], alts := [], laidByText := true, laidKinds := [.data, .data], laidTests := true, laidLooks := .later }
def LamRunsUptoCardSaid : Prop := Claim7.holds Tryd.pinned (.plain (OpenSpec.upto lamRunsSpec)) lamRunsUptoCard

/-- THE SECOND FORM's CARD OF 'affiantlaw3.LamTells'. -/
def lamTellsUptoCard : Claim7 := { stood := { row := lamTellsUptoRow, standIns := [], harness := (true, "38d4d4a6b4d1139569abee9f5176e90782bf485e6bb516ebc1821d944634292b"), looks := false }, kinds := [], alts := [], laidByText := true, laidKinds := [.data, .data], laidTests := true, laidLooks := .later }
def LamTellsUptoCardSaid : Prop := Claim7.holds Tryd.pinned (.plain (OpenSpec.upto lamTellsSpec)) lamTellsUptoCard

/-- THE SECOND FORM's CARD OF 'affiantlaw3.LamTurned'. -/
def lamTurnedUptoCard : Claim7 := { stood := { row := lamTurnedUptoRow, standIns := [], harness := (true, "38d4d4a6b4d1139569abee9f5176e90782bf485e6bb516ebc1821d944634292b"), looks := false }, kinds := [], alts := [], laidByText := true, laidKinds := [.data, .data], laidTests := true, laidLooks := .later }
def LamTurnedUptoCardSaid : Prop := Claim7.holds Tryd.pinned (.plain (OpenSpec.upto lamTurnedSpec)) lamTurnedUptoCard

/-- THE SECOND FORM's CARD OF 'affiantlaw3.LamOpens'. -/
def lamOpensUptoCard : Claim7 := { stood := { row := lamOpensUptoRow, standIns := [], harness := (true, "38d4d4a6b4d1139569abee9f5176e90782bf485e6bb516ebc1821d944634292b"), looks := false }, kinds := [], alts := [], laidByText := true, laidKinds := [.data, .data], laidTests := true, laidLooks := .later }
def LamOpensUptoCardSaid : Prop := Claim7.holds Tryd.pinned (.plain (OpenSpec.upto lamOpensSpec)) lamOpensUptoCard

/-- THE SECOND FORM's CARD OF 'affiantlaw3.LamSizes'. -/
def lamSizesUptoCard : Claim7 := { stood := { row := lamSizesUptoRow, standIns := [], harness := (true, "38d4d4a6b4d1139569abee9f5176e90782bf485e6bb516ebc1821d944634292b"), looks := false }, kinds := [], alts := [], laidByText := true, laidKinds := [.data, .data], laidTests := true, laidLooks := .later }
def LamSizesUptoCardSaid : Prop := Claim7.holds Tryd.pinned (.plain (OpenSpec.upto lamSizesSpec)) lamSizesUptoCard
end Rows
end Go.Proofs.YtepnhepaihpnoaaDoor
