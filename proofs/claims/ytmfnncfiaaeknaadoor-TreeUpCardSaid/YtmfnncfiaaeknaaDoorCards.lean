/-
  DERIVED. GIVEN WITH THE SEED: THE CARDS: each row of YtmfnncfiaaeknaaDoorRows.lean that lists a variable, with what it lists TIED to the program's text (the seventh form; the later family's looks); each row that meets fmt, with fmt's text TOLD by the authors' own Lean function (tested against real Go, not proved from fmt's source: count such statements apart). THE CARD IS WHAT COUNTS. Prove the row's statement (the work); the ties are given (YtmfnncfiaaeknaaDoorTie.lean); close each card by the builder's one call (the guide's Derived/Test/ToyasCard.lean, 'card_holds'). Laid BY PROGRAM, IN A SANDBOX (cutbox-door.mjs). By AI agents, Wed Nov 11 2026. No macro, syntax, notation, axiom, sorry.
-/
import Derived.Test.YtmfnncfiaaeknaaDoorRows
import GoSem.ClaimSeven
namespace Go.Proofs.YtmfnncfiaaeknaaDoor
namespace Rows

/-- THE TIED CARD OF 'affiantlaw3.LamTurned'. -/
def lamTurnedCard : Claim7 := { stood := { row := lamTurnedRow, standIns := [], harness := (true, "b3de2277e7169b266f1a8d66479659d3d40d7d9b77d86050b39a68ef5174620c"), looks := false }, kinds := [], alts := [], laidByText := true, laidKinds := [.data, .data], laidTests := true, laidLooks := .later }
def LamTurnedCardSaid : Prop := Claim7.holds Tryd.pinned (.plain (OpenSpec.ofChange lamTurnedSpec)) lamTurnedCard

/-- THE TIED CARD OF 'affiantlaw4.TreeRuns'. -/
def treeRunsCard : Claim7 := { stood := { row := treeRunsRow, standIns := [], harness := (true, "b3de2277e7169b266f1a8d66479659d3d40d7d9b77d86050b39a68ef5174620c"), looks := false }, kinds := [], alts := [], laidByText := true, laidKinds := [.data, .data], laidTests := true, laidLooks := .later }
def TreeRunsCardSaid : Prop := Claim7.holds Tryd.pinned (.plain (OpenSpec.ofChange treeRunsSpec)) treeRunsCard

/-- THE TIED CARD OF 'affiantlaw4.TreeTells'. -/
def treeTellsCard : Claim7 := { stood := { row := treeTellsRow, standIns := [], harness := (true, "b3de2277e7169b266f1a8d66479659d3d40d7d9b77d86050b39a68ef5174620c"), looks := false }, kinds := [], alts := [], laidByText := true, laidKinds := [.data, .data], laidTests := true, laidLooks := .later }
def TreeTellsCardSaid : Prop := Claim7.holds Tryd.pinned (.plain (OpenSpec.ofChange treeTellsSpec)) treeTellsCard

/-- THE TIED CARD OF 'affiantlaw4.TreeUp'. -/
def treeUpCard : Claim7 := { stood := { row := treeUpRow, standIns := [], harness := (true, "b3de2277e7169b266f1a8d66479659d3d40d7d9b77d86050b39a68ef5174620c"), looks := false }, kinds := [], alts := [], laidByText := true, laidKinds := [.data, .data], laidTests := true, laidLooks := .later }
def TreeUpCardSaid : Prop := Claim7.holds Tryd.pinned (.plain (OpenSpec.ofChange treeUpSpec)) treeUpCard

/-- THE TIED CARD OF 'affiantlaw4.TreeParts'. -/
def treePartsCard : Claim7 := { stood := { row := treePartsRow, standIns := [], harness := (true, "b3de2277e7169b266f1a8d66479659d3d40d7d9b77d86050b39a68ef5174620c"), looks := false }, kinds := [], alts := [], laidByText := true, laidKinds := [.data, .data], laidTests := true, laidLooks := .later }
def TreePartsCardSaid : Prop := Claim7.holds Tryd.pinned (.plain (OpenSpec.ofChange treePartsSpec)) treePartsCard

/-- THE TIED CARD OF 'affiantlaw4.TreeDepths'. -/
def treeDepthsCard : Claim7 := { stood := { row := treeDepthsRow, standIns := [], harness := (true, "b3de2277e7169b266f1a8d66479659d3d40d7d9b77d86050b39a68ef5174620c"), looks := false }, kinds := [], alts := [], laidByText := true, laidKinds := [.data, .data], laidTests := true, laidLooks := .later }
def TreeDepthsCardSaid : Prop := Claim7.holds Tryd.pinned (.plain (OpenSpec.ofChange treeDepthsSpec)) treeDepthsCard

/-- THE SECOND FORM's CARD OF 'affiantlaw3.LamTurned'. -/
def lamTurnedUptoCard : Claim7 := { stood := { row := lamTurnedUptoRow, standIns := [], harness := (true, "b3de2277e7169b266f1a8d66479659d3d40d7d9b77d86050b39a68ef5174620c"), looks := false }, kinds := [], alts := [], laidByText := true, laidKinds := [.data, .data], laidTests := true, laidLooks := .later }
def LamTurnedUptoCardSaid : Prop := Claim7.holds Tryd.pinned (.plain (OpenSpec.upto lamTurnedSpec)) lamTurnedUptoCard

/-- THE SECOND FORM's CARD OF 'affiantlaw4.TreeRuns'. -/
def treeRunsUptoCard : Claim7 := { stood := { row := treeRunsUptoRow, standIns := [], harness := (true, "b3de2277e7169b266f1a8d66479659d3d40d7d9b77d86050b39a68ef5174620c"), looks := false }, kinds := [], alts := [], laidByText := true, laidKinds := [.data, .data], laidTests := true, laidLooks := .later }
def TreeRunsUptoCardSaid : Prop := Claim7.holds Tryd.pinned (.plain (OpenSpec.upto treeRunsSpec)) treeRunsUptoCard

/-- THE SECOND FORM's CARD OF 'affiantlaw4.TreeTells'. -/
def treeTellsUptoCard : Claim7 := { stood := { row := treeTellsUptoRow, standIns := [], harness := (true, "b3de2277e7169b266f1a8d66479659d3d40d7d9b77d86050b39a68ef5174620c"), looks := false }, kinds := [], alts := [], laidByText := true, laidKinds := [.data, .data], laidTests := true, laidLooks := .later }
def TreeTellsUptoCardSaid : Prop := Claim7.holds Tryd.pinned (.plain (OpenSpec.upto treeTellsSpec)) treeTellsUptoCard

/-- THE SECOND FORM's CARD OF 'affiantlaw4.TreeUp'. -/
def treeUpUptoCard : Claim7 := { stood := { row := treeUpUptoRow, standIns := [], harness := (true, "b3de2277e7169b266f1a8d66479659d3d40d7d9b77d86050b39a68ef5174620c"), looks := false }, kinds := [], alts := [], laidByText := true, laidKinds := [.data, .data], laidTests := true, laidLooks := .later }
def TreeUpUptoCardSaid : Prop := Claim7.holds Tryd.pinned (.plain (OpenSpec.upto treeUpSpec)) treeUpUptoCard

/-- THE SECOND FORM's CARD OF 'affiantlaw4.TreeParts'. -/
def treePartsUptoCard : Claim7 := { stood := { row := treePartsUptoRow, standIns := [], harness := (true, "b3de2277e7169b266f1a8d66479659d3d40d7d9b77d86050b39a68ef5174620c"), looks := false }, kinds := [], alts := [], laidByText := true, laidKinds := [.data, .data], laidTests := true, laidLooks := .later }
def TreePartsUptoCardSaid : Prop := Claim7.holds Tryd.pinned (.plain (OpenSpec.upto treePartsSpec)) treePartsUptoCard

/-- THE SECOND FORM's CARD OF 'affiantlaw4.TreeDepths'. -/
def treeDepthsUptoCard : Claim7 := { stood := { row := treeDepthsUptoRow, standIns := [], harness := (true, "b3de2277e7169b266f1a8d66479659d3d40d7d9b77d86050b39a68ef5174620c"), looks := false }, kinds := [], alts := [], laidByText := true, laidKinds := [.data, .data], laidTests := true, laidLooks := .later }
def TreeDepthsUptoCardSaid : Prop := Claim7.holds Tryd.pinned (.plain (OpenSpec.upto treeDepthsSpec)) treeDepthsUptoCard
end Rows
end Go.Proofs.YtmfnncfiaaeknaaDoor
