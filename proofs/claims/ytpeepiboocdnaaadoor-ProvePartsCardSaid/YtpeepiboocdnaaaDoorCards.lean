/-
  DERIVED. GIVEN WITH THE SEED: THE CARDS: each row of YtpeepiboocdnaaaDoorRows.lean that lists a variable, with what it lists TIED to the program's text (the seventh form; the later family's looks); each row that meets fmt, with fmt's text TOLD by the authors' own Lean function (tested against real Go, not proved from fmt's source: count such statements apart). THE CARD IS WHAT COUNTS. Prove the row's statement (the work); the ties are given (YtpeepiboocdnaaaDoorTie.lean); close each card by the builder's one call (the guide's Derived/Test/ToyasCard.lean, 'card_holds'). Laid BY PROGRAM, IN A SANDBOX (cutbox-door.mjs). By AI agents, Wed Nov 11 2026. No macro, syntax, notation, axiom, sorry.
-/
import Derived.Test.YtpeepiboocdnaaaDoorRows
import GoSem.ClaimSeven
namespace Go.Proofs.YtpeepiboocdnaaaDoor
namespace Rows

/-- THE TIED CARD OF 'affiantlaw8.ProveRuns'. -/
def proveRunsCard : Claim7 := { stood := { row := proveRunsRow, standIns := [], harness := (true, "7cb303795734d65972b1e4dfdfdc1607a76f7de057d5f1cc8a339e52c37f3ec5"), looks := false }, kinds := [], alts := [], laidByText := true, laidKinds := [.data, .data], laidTests := true, laidLooks := .later }
def ProveRunsCardSaid : Prop := Claim7.holds Tryd.pinned (.plain (OpenSpec.ofChange proveRunsSpec)) proveRunsCard

/-- THE TIED CARD OF 'affiantlaw8.ProveTells'. -/
def proveTellsCard : Claim7 := { stood := { row := proveTellsRow, standIns := [], harness := (true, "7cb303795734d65972b1e4dfdfdc1607a76f7de057d5f1cc8a339e52c37f3ec5"), looks := false }, kinds := [], alts := [], laidByText := true, laidKinds := [.data, .data], laidTests := true, laidLooks := .later }
def ProveTellsCardSaid : Prop := Claim7.holds Tryd.pinned (.plain (OpenSpec.ofChange proveTellsSpec)) proveTellsCard

/-- THE TIED CARD OF 'affiantlaw8.ProveHolds'. -/
def proveHoldsCard : Claim7 := { stood := { row := proveHoldsRow, standIns := [], harness := (true, "7cb303795734d65972b1e4dfdfdc1607a76f7de057d5f1cc8a339e52c37f3ec5"), looks := false }, kinds := [], alts := [], laidByText := true, laidKinds := [.data, .data], laidTests := true, laidLooks := .later }
def ProveHoldsCardSaid : Prop := Claim7.holds Tryd.pinned (.plain (OpenSpec.ofChange proveHoldsSpec)) proveHoldsCard

/-- THE TIED CARD OF 'affiantlaw8.ProveParts'. -/
def provePartsCard : Claim7 := { stood := { row := provePartsRow, standIns := [], harness := (true, "7cb303795734d65972b1e4dfdfdc1607a76f7de057d5f1cc8a339e52c37f3ec5"), looks := false }, kinds := [], alts := [], laidByText := true, laidKinds := [.data, .data], laidTests := true, laidLooks := .later }
def ProvePartsCardSaid : Prop := Claim7.holds Tryd.pinned (.plain (OpenSpec.ofChange provePartsSpec)) provePartsCard

/-- THE TIED CARD OF 'affiantlaw8.ProveNone'. -/
def proveNoneCard : Claim7 := { stood := { row := proveNoneRow, standIns := [], harness := (true, "7cb303795734d65972b1e4dfdfdc1607a76f7de057d5f1cc8a339e52c37f3ec5"), looks := false }, kinds := [], alts := [], laidByText := true, laidKinds := [.data, .data], laidTests := true, laidLooks := .later }
def ProveNoneCardSaid : Prop := Claim7.holds Tryd.pinned (.plain (OpenSpec.ofChange proveNoneSpec)) proveNoneCard

/-- THE SECOND FORM's CARD OF 'affiantlaw8.ProveRuns'. -/
def proveRunsUptoCard : Claim7 := { stood := { row := proveRunsUptoRow, standIns := [], harness := (true, "7cb303795734d65972b1e4dfdfdc1607a76f7de057d5f1cc8a339e52c37f3ec5"), looks := false }, kinds := [], alts := [], laidByText := true, laidKinds := [.data, .data], laidTests := true, laidLooks := .later }
def ProveRunsUptoCardSaid : Prop := Claim7.holds Tryd.pinned (.plain (OpenSpec.upto proveRunsSpec)) proveRunsUptoCard

/-- THE SECOND FORM's CARD OF 'affiantlaw8.ProveTells'. -/
def proveTellsUptoCard : Claim7 := { stood := { row := proveTellsUptoRow, standIns := [], harness := (true, "7cb303795734d65972b1e4dfdfdc1607a76f7de057d5f1cc8a339e52c37f3ec5"), looks := false }, kinds := [], alts := [], laidByText := true, laidKinds := [.data, .data], laidTests := true, laidLooks := .later }
def ProveTellsUptoCardSaid : Prop := Claim7.holds Tryd.pinned (.plain (OpenSpec.upto proveTellsSpec)) proveTellsUptoCard

/-- THE SECOND FORM's CARD OF 'affiantlaw8.ProveHolds'. -/
def proveHoldsUptoCard : Claim7 := { stood := { row := proveHoldsUptoRow, standIns := [], harness := (true, "7cb303795734d65972b1e4dfdfdc1607a76f7de057d5f1cc8a339e52c37f3ec5"), looks := false }, kinds := [], alts := [], laidByText := true, laidKinds := [.data, .data], laidTests := true, laidLooks := .later }
def ProveHoldsUptoCardSaid : Prop := Claim7.holds Tryd.pinned (.plain (OpenSpec.upto proveHoldsSpec)) proveHoldsUptoCard

/-- THE SECOND FORM's CARD OF 'affiantlaw8.ProveParts'. -/
def provePartsUptoCard : Claim7 := { stood := { row := provePartsUptoRow, standIns := [], harness := (true, "7cb303795734d65972b1e4dfdfdc1607a76f7de057d5f1cc8a339e52c37f3ec5"), looks := false }, kinds := [], alts := [], laidByText := true, laidKinds := [.data, .data], laidTests := true, laidLooks := .later }
def ProvePartsUptoCardSaid : Prop := Claim7.holds Tryd.pinned (.plain (OpenSpec.upto provePartsSpec)) provePartsUptoCard

/-- THE SECOND FORM's CARD OF 'affiantlaw8.ProveNone'. -/
def proveNoneUptoCard : Claim7 := { stood := { row := proveNoneUptoRow, standIns := [], harness := (true, "7cb303795734d65972b1e4dfdfdc1607a76f7de057d5f1cc8a339e52c37f3ec5"), looks := false }, kinds := [], alts := [], laidByText := true, laidKinds := [.data, .data], laidTests := true, laidLooks := .later }
def ProveNoneUptoCardSaid : Prop := Claim7.holds Tryd.pinned (.plain (OpenSpec.upto proveNoneSpec)) proveNoneUptoCard
end Rows
end Go.Proofs.YtpeepiboocdnaaaDoor
