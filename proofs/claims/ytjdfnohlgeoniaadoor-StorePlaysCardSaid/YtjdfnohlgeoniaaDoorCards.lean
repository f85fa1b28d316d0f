/-
  DERIVED. GIVEN WITH THE SEED: THE CARDS: each row of YtjdfnohlgeoniaaDoorRows.lean that lists a variable, with what it lists TIED to the program's text (the seventh form; the later family's looks); each row that meets fmt, with fmt's text TOLD by the authors' own Lean function (tested against real Go, not proved from fmt's source: count such statements apart). THE CARD IS WHAT COUNTS. Prove the row's statement (the work); the ties are given (YtjdfnohlgeoniaaDoorTie.lean); close each card by the builder's one call (the guide's Derived/Test/ToyasCard.lean, 'card_holds'). Laid BY PROGRAM, IN A SANDBOX (cutbox-door.mjs). By AI agents, Wed Nov 11 2026. No macro, syntax, notation, axiom, sorry.
-/
import Derived.Test.YtjdfnohlgeoniaaDoorRows
import GoSem.ClaimSeven
namespace Go.Proofs.YtjdfnohlgeoniaaDoor
namespace Rows

/-- THE TIED CARD OF 'affiantlaw7.StorePlays'. -/
def storePlaysCard : Claim7 := { stood := { row := storePlaysRow, standIns := [], harness := (true, "0fb73eca64edb959519f2160e87a29f4cedf9ee4f8b8e4f1639a67d36b83d10c"), looks := false }, kinds := [], alts := [], laidByText := true, laidKinds := [.data, .data], laidTests := true, laidLooks := .later }
def StorePlaysCardSaid : Prop := Claim7.holds Tryd.pinned (.plain (OpenSpec.ofChange storePlaysSpec)) storePlaysCard

/-- THE TIED CARD OF 'affiantlaw7.StoreRoots'. -/
def storeRootsCard : Claim7 := { stood := { row := storeRootsRow, standIns := [], harness := (true, "0fb73eca64edb959519f2160e87a29f4cedf9ee4f8b8e4f1639a67d36b83d10c"), looks := false }, kinds := [], alts := [], laidByText := true, laidKinds := [.data, .data], laidTests := true, laidLooks := .later }
def StoreRootsCardSaid : Prop := Claim7.holds Tryd.pinned (.plain (OpenSpec.ofChange storeRootsSpec)) storeRootsCard

/-- THE TIED CARD OF 'affiantlaw7.StoreOld'. -/
def storeOldCard : Claim7 := { stood := { row := storeOldRow, standIns := [], harness := (true, "0fb73eca64edb959519f2160e87a29f4cedf9ee4f8b8e4f1639a67d36b83d10c"), looks := false }, kinds := [], alts := [], laidByText := true, laidKinds := [.data, .data], laidTests := true, laidLooks := .later }
def StoreOldCardSaid : Prop := Claim7.holds Tryd.pinned (.plain (OpenSpec.ofChange storeOldSpec)) storeOldCard

/-- THE TIED CARD OF 'affiantlaw7.StoreFull'. -/
def storeFullCard : Claim7 := { stood := { row := storeFullRow, standIns := [], harness := (true, "0fb73eca64edb959519f2160e87a29f4cedf9ee4f8b8e4f1639a67d36b83d10c"), looks := false }, kinds := [], alts := [], laidByText := true, laidKinds := [.data, .data], laidTests := true, laidLooks := .later }
def StoreFullCardSaid : Prop := Claim7.holds Tryd.pinned (.plain (OpenSpec.ofChange storeFullSpec)) storeFullCard

/-- THE SECOND FORM's CARD OF 'affiantlaw7.StorePlays'. -/
def storePlaysUptoCard : Claim7 := { stood := { row := storePlaysUptoRow, standIns := [], harness := (true, "0fb73eca64edb959519f2160e87a29f4cedf9ee4f8b8e4f1639a67d36b83d10c"), looks := false }, kinds := [], alts := [], laidByText := true, laidKinds := [.data, .data], laidTests := true, laidLooks := .later }
def StorePlaysUptoCardSaid : Prop := Claim7.holds Tryd.pinned (.plain (OpenSpec.upto storePlaysSpec)) storePlaysUptoCard

/-- THE SECOND FORM's CARD OF 'affiantlaw7.StoreRoots'. -/
def storeRootsUptoCard : Claim7 := { stood := { row := storeRootsUptoRow, standIns := [], harness := (true, "0fb73eca64edb959519f2160e87a29f4cedf9ee4f8b8e4f1639a67d36b83d10c"), looks := false }, kinds := [], alts := [], laidByText := true, laidKinds := [.data, .data], laidTests := true, laidLooks := .later }
def StoreRootsUptoCardSaid : Prop := Claim7.holds Tryd.pinned (.plain (OpenSpec.upto storeRootsSpec)) storeRootsUptoCard

/-- THE SECOND FORM's CARD OF 'affiantlaw7.StoreOld'. -/
def storeOldUptoCard : Claim7 := { stood := { row := storeOldUptoRow, standIns := [], harness := (true, "0fb73eca64edb959519f2160e87a29f4cedf9ee4f8b8e4f1639a67d36b83d10c"), looks := false }, kinds := [], alts := [], laidByText := true, laidKinds := [.data, .data], laidTests := true, laidLooks := .later }
def StoreOldUptoCardSaid : Prop := Claim7.holds Tryd.pinned (.plain (OpenSpec.upto storeOldSpec)) storeOldUptoCard

/-- THE SECOND FORM's CARD OF 'affiantlaw7.StoreFull'. -/
def storeFullUptoCard : Claim7 := { stood := { row := storeFullUptoRow, standIns := [], harness := (true, "0fb73eca64edb959519f2160e87a29f4cedf9ee4f8b8e4f1639a67d36b83d10c"), looks := false }, kinds := [], alts := [], laidByText := true, laidKinds := [.data, .data], laidTests := true, laidLooks := .later }
def StoreFullUptoCardSaid : Prop := Claim7.holds Tryd.pinned (.plain (OpenSpec.upto storeFullSpec)) storeFullUptoCard
end Rows
end Go.Proofs.YtjdfnohlgeoniaaDoor
