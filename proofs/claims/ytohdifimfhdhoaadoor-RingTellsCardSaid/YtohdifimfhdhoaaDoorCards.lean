/-
  DERIVED. GIVEN WITH THE SEED: THE CARDS: each row of YtohdifimfhdhoaaDoorRows.lean that lists a variable, with what it lists TIED to the program's text (the seventh form; the later family's looks); each row that meets fmt, with fmt's text TOLD by the authors' own Lean function (tested against real Go, not proved from fmt's source: count such statements apart). THE CARD IS WHAT COUNTS. Prove the row's statement (the work); the ties are given (YtohdifimfhdhoaaDoorTie.lean); close each card by the builder's one call (the guide's Derived/Test/ToyasCard.lean, 'card_holds'). Laid BY PROGRAM, IN A SANDBOX (cutbox-door.mjs). By AI agents, Wed Nov 11 2026. No macro, syntax, notation, axiom, sorry.
-/
import Derived.Test.YtohdifimfhdhoaaDoorRows
import GoSem.ClaimSeven
namespace Go.Proofs.YtohdifimfhdhoaaDoor
namespace Rows

/-- THE TIED CARD OF 'affiantlaw5.RingRuns'. -/
def ringRunsCard : Claim7 := { stood := { row := ringRunsRow, standIns := [], harness := (true, "8c5d591c482bebc219d9586c9a457c89bdc52ae8a4ea367c71460cbabeec6815"), looks := false }, kinds := [], alts := [], laidByText := true, laidKinds := [.data, .data], laidTests := true, laidLooks := .later }
def RingRunsCardSaid : Prop := Claim7.holds Tryd.pinned (.plain (OpenSpec.ofChange ringRunsSpec)) ringRunsCard

/-- THE TIED CARD OF 'affiantlaw5.RingTells'. -/
def ringTellsCard : Claim7 := { stood := { row := ringTellsRow, standIns := [], harness := (true, "8c5d591c482bebc219d9586c9a457c89bdc52ae8a4ea367c71460cbabeec6815"), looks := false }, kinds := [], alts := [], laidByText := true, laidKinds := [.data, .data], laidTests := true, laidLooks := .later }
def RingTellsCardSaid : Prop := Claim7.holds Tryd.pinned (.plain (OpenSpec.ofChange ringTellsSpec)) ringTellsCard

/-- THE TIED CARD OF 'affiantlaw5.RingTurned'. -/
def ringTurnedCard : Claim7 := { stood := { row := ringTurnedRow, standIns := [], harness := (true, "8c5d591c482bebc219d9586c9a457c89bdc52ae8a4ea367c71460cbabeec6815"), looks := false }, kinds := [], alts := [], laidByText := true, laidKinds := [.data, .data], laidTests := true, laidLooks := .later }
def RingTurnedCardSaid : Prop := Claim7.holds Tryd.pinned (.plain (OpenSpec.ofChange ringTurnedSpec)) ringTurnedCard

/-- THE TIED CARD OF 'affiantlaw5.RingHeights'. -/
def ringHeightsCard : Claim7 := { stood := { row := ringHeightsRow, standIns := [], harness := (true, "8c5d591c482bebc219d9586c9a457c89bdc52ae8a4ea367c71460cbabeec6815"), looks := false }, kinds := [], alts := [], laidByText := true, laidKinds := [.data, .data], laidTests := true, laidLooks := .later }
def RingHeightsCardSaid : Prop := Claim7.holds Tryd.pinned (.plain (OpenSpec.ofChange ringHeightsSpec)) ringHeightsCard

/-- THE TIED CARD OF 'affiantlaw5.RingSeeds'. -/
def ringSeedsCard : Claim7 := { stood := { row := ringSeedsRow, standIns := [], harness := (true, "8c5d591c482bebc219d9586c9a457c89bdc52ae8a4ea367c71460cbabeec6815"), looks := false }, kinds := [], alts := [], laidByText := true, laidKinds := [.data, .data], laidTests := true, laidLooks := .later }
def RingSeedsCardSaid : Prop := Claim7.holds Tryd.pinned (.plain (OpenSpec.ofChange ringSeedsSpec)) ringSeedsCard

/-- THE SECOND FORM's CARD OF 'affiantlaw5.RingRuns'. -/
def ringRunsUptoCard : Claim7 := { stood := { row := ringRunsUptoRow, standIns := [], harness := (true, "8c5d591c482bebc219d9586c9a457c89bdc52ae8a4ea367c71460cbabeec6815"), looks := false }, kinds := [], alts := [], laidByText := true, laidKinds := [.data, .data], laidTests := true, laidLooks := .later }
def RingRunsUptoCardSaid : Prop := Claim7.holds Tryd.pinned (.plain (OpenSpec.upto ringRunsSpec)) ringRunsUptoCard

/-- THE SECOND FORM's CARD OF 'affiantlaw5.RingTells'. -/
def ringTellsUptoCard : Claim7 := { stood := { row := ringTellsUptoRow, standIns := [], harness := (true, "8c5d591c482bebc219d9586c9a457c89bdc52ae8a4ea367c71460cbabeec6815"), looks := false }, kinds := [], alts := [], laidByText := true, laidKinds := [.data, .data], laidTests := true, laidLooks := .later }
def RingTellsUptoCardSaid : Prop := Claim7.holds Tryd.pinned (.plain (OpenSpec.upto ringTellsSpec)) ringTellsUptoCard

/-- THE SECOND FORM's CARD OF 'affiantlaw5.RingTurned'. -/
def ringTurnedUptoCard : Claim7 := { stood := { row := ringTurnedUptoRow, standIns := [], harness := (true, "8c5d591c482bebc219d9586c9a457c89bdc52ae8a4ea367c71460cbabeec6815"), looks := false }, kinds := [], alts := [], laidByText := true, laidKinds := [.data, .data], laidTests := true, laidLooks := .later }
def RingTurnedUptoCardSaid : Prop := Claim7.holds Tryd.pinned (.plain (OpenSpec.upto ringTurnedSpec)) ringTurnedUptoCard

/-- THE SECOND FORM's CARD OF 'affiantlaw5.RingHeights'. -/
def ringHeightsUptoCard : Claim7 := { stood := { row := ringHeightsUptoRow, standIns := [], harness := (true, "8c5d591c482bebc219d9586c9a457c89bdc52ae8a4ea367c71460cbabeec6815"), looks := false }, kinds := [], alts := [], laidByText := true, laidKinds := [.data, .data], laidTests := true, laidLooks := .later }
def RingHeightsUptoCardSaid : Prop := Claim7.holds Tryd.pinned (.plain (OpenSpec.upto ringHeightsSpec)) ringHeightsUptoCard

/-- THE SECOND FORM's CARD OF 'affiantlaw5.RingSeeds'. -/
def ringSeedsUptoCard : Claim7 := { stood := { row := ringSeedsUptoRow, standIns := [], harness := (true, "8c5d591c482bebc219d9586c9a457c89bdc52ae8a4ea367c71460cbabeec6815"), looks := false }, kinds := [], alts := [], laidByText := true, laidKinds := [.data, .data], laidTests := true, laidLooks := .later }
def RingSeedsUptoCardSaid : Prop := Claim7.holds Tryd.pinned (.plain (OpenSpec.upto ringSeedsSpec)) ringSeedsUptoCard
end Rows
end Go.Proofs.YtohdifimfhdhoaaDoor
