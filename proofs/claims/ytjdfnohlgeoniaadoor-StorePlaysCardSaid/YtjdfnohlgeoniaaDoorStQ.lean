/- The landed store goes the laws' road, but for roots. -/
import Derived.Test.YtjdfnohlgeoniaaDoorStK
import Derived.Test.YtjdfnohlgeoniaaDoorStL
import Derived.Test.YtjdfnohlgeoniaaDoorStE
namespace Go.Proofs.YtjdfnohlgeoniaaDoor
open Go.RowKit

theorem storeJ : StoreJ SA where
  keep := fun ⟨A, c, kv, rs, x⟩ h hC => ⟨A, c, kv, rs, x.keep h hC⟩
  sub := fun ⟨_, _, _, _, x⟩ => ⟨x.br, x.rl⟩
  right := fun ⟨_, _, _, _, x⟩ => x.ri
  new := New_any
  set := fun p h => SSet_any p h
  del := fun k h => SDel_any k h
  commit := fun h => Commit_any h
  height := fun h => Height_any h
  at_ := fun k h hb => At_any k h hb
end Go.Proofs.YtjdfnohlgeoniaaDoor
