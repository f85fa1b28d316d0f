/- The landed store goes the laws' road; its first laws: StoreRuns, StoreFull, StoreRoots. -/
import Derived.Test.YtjdfnohlgeoniaaDoorStM
import Derived.Test.YtjdfnohlgeoniaaDoorStQ
import Derived.Test.YtjdfnohlgeoniaaDoorStG
namespace Go.Proofs.YtjdfnohlgeoniaaDoor
open Go.RowKit

theorem storeK : StoreK SA where
  toStoreJ := storeJ
  now_ := fun h => Now_any h
  root := fun k h hk hb => MRoot_any k h hk hb
  kept := fun h => Kept_any h
  copy := fun h => Copy_any h
  sroot := fun hr _ hright hk => SRoot_any _ _ _ _ hr hright hk
end Go.Proofs.YtjdfnohlgeoniaaDoor
