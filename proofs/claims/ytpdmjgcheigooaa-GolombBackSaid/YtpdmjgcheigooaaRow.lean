/-
  Closed facts of this program that every row asks; no condition.
-/
import Derived.Test.YtpdmjgcheigooaaLaw
import Derived.Test.YtpdmjgcheigooaaRows
namespace Go.Proofs.Ytpdmjgcheigooaa
theorem own_knob : ownKnob Try.prog.godebug = none := by kernel_rfl
theorem laid_out : laidOutB Try.prog = true := by kernel_rfl
end Go.Proofs.Ytpdmjgcheigooaa
