/-
  Closed facts of this program that every row asks; no condition.
-/
import Derived.Test.YtfjlepnodmeaaaaLaw
import Derived.Test.YtfjlepnodmeaaaaRows
namespace Go.Proofs.Ytfjlepnodmeaaaa
theorem own_knob : ownKnob Try.prog.godebug = none := by kernel_rfl
theorem laid_out : laidOutB Try.prog = true := by kernel_rfl
end Go.Proofs.Ytfjlepnodmeaaaa
