/-
  The law CoderOne answers true whatever its input, and leaves its arguments as they were; no condition.
-/
import Derived.Test.YtfnmplipbgdniaaEOne
import Derived.Test.YtfnmplipbgdniaaCodInst
namespace Go.Proofs.Ytfnmplipbgdniaa
open Go.RowKit

theorem one4_holds : Rows.CoderOneSaid := one4_holds_of encI decI nextI
#print axioms one4_holds
end Go.Proofs.Ytfnmplipbgdniaa
