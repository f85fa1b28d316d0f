/- Two closed facts of this program, for its rows. -/
import Derived.Test.YtjdfnohlgeoniaaKO
namespace Go.Proofs.Ytjdfnohlgeoniaa
theorem Try.own : ownKnob Try.prog.godebug = none := by kernel_rfl
theorem Try.laidOut : laidOutB Try.prog = true := by kernel_rfl
end Go.Proofs.Ytjdfnohlgeoniaa
