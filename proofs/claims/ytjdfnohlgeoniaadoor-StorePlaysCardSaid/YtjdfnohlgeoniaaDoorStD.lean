/- What a store's calls come to, told without its form: the road of the laws of package store. -/
import Derived.Test.YtjdfnohlgeoniaaDoorStC
import Derived.Test.YtjdfnohlgeoniaaDoorStD0
namespace Go.Proofs.YtjdfnohlgeoniaaDoor
open Go.RowKit

/-- The root that is kept of a height, or zeros. -/
def Vers.rootAt (s : Vers) (h : Int) : List UInt8 := match s.at? h with | some l => storeRootL l | none => List.replicate 32 0

/-- .. the rest of them. -/
structure StoreK (SA : World → Nat → (Nat → Prop) → (Nat → Prop) → Vers → Prop) : Prop extends StoreJ SA where
  now_ : ∀ {w g B R s}, SA w g B R s → Calls Tryd.prog 18 #[sptr g] w fun e w' => ∃ v, e = .returned v ∧ PB w' v s.now ∧ (∀ x, v.ownBlock = some x → ¬ B x) ∧ w.grownBy w' none
  root : ∀ {w g B R s} (h : Int), SA w g B R s → Laid2 w → (-1000 ≤ h ∧ h ≤ 1000) → Calls Tryd.prog 20 #[sptr g, .int .i64 h] w fun e w' => e = .returned (.tuple #[.agg ((s.rootAt h).map bv).toArray, .bool (s.at? h).isSome]) ∧ w.grownBy w' none
  kept : ∀ {w g B R s}, SA w g B R s → Calls Tryd.prog 23 #[sptr g] w fun e w' => ∃ A c, e = .returned (.slice A s.kept.length c) ∧ s.kept.length ≤ c ∧ RdAt w' A (s.kept.map iv) ∧ w.grownBy w' none
  copy : ∀ {w g B R s}, SA w g B R s → Calls Tryd.prog 10 #[sptr g] w fun e w' => ∃ g' B' R', e = .returned (sptr g') ∧ SA w' g' B' R' s ∧ w.grownBy w' none ∧ (∀ x, B' x → w.heap.size ≤ x) ∧ (∀ x, R' x → R x ∨ w.heap.size ≤ x) ∧ ∀ x, B x → ¬ R' x
  sroot : ∀ {w A c ps}, RdQ w A ps → ps.length ≤ c → rightL ps = true → Laid2 w → Calls Tryd.prog 27 #[.slice A ps.length c] w fun e w' => e = .returned (.agg ((storeRootL ps).map bv).toArray) ∧ w.grownBy w' none
end Go.Proofs.YtjdfnohlgeoniaaDoor
