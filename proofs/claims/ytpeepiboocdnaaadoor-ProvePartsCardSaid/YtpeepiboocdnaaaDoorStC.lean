/- The document's own bound and root of a store. -/
import Derived.Test.YtpeepiboocdnaaaDoorStB
namespace Go.Proofs.YtpeepiboocdnaaaDoor
open Go.RowKit

/-- The root of a store, as a plain function. -/
def boundL (n : Nat) (r : List UInt8) : List UInt8 := tagL 83 (putL n ++ r)
theorem boundL_len (n : Nat) (r : List UInt8) : (boundL n r).length = 32 := tagL_len _ _

theorem leaves_len {ps : List Kv} {qs : List Part} (h : leavesOf qs = leavesL ps) : qs.length = ps.length := by
  have := congrArg List.length h
  unfold leavesOf leavesL at this
  simpa using this
theorem leafL_le (p : Kv) : (leafL p).length ≤ p.1.length + p.2.length + 12 := by
  have h1 := putL_len p.1.length
  have h2 := putL_len p.2.length
  rw [leafL_eq, List.length_append]; unfold textL; rw [List.length_append, List.length_append]; omega
theorem leaves_le {ps : List Kv} {qs : List Part} (h : leavesOf qs = leavesL ps) (hs : ∀ p ∈ ps, p.1.length ≤ 100 ∧ p.2.length ≤ 100) : ∀ q ∈ qs, q.2.1.length ≤ 1000 := fun q hq => by
  have h1 : q.2.1 ∈ leavesL ps := by rw [← h]; exact List.mem_map.2 ⟨q, hq, rfl⟩
  obtain ⟨p, hp, e⟩ := List.mem_map.1 h1
  have := leafL_le p
  have := hs p hp
  rw [← e]; omega
/-- The document's root of a store, as a plain function. -/
def storeRootL (ps : List Kv) : List UInt8 := boundL ps.length (rootL (leavesL ps))
end Go.Proofs.YtpeepiboocdnaaaDoor
