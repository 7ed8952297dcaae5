/-
  The law CoderWrites answers true whatever its input, and leaves its arguments as they were; no condition.
-/
import Derived.Test.YtfnmplipbgdniaaEWrites
import Derived.Test.YtfnmplipbgdniaaCodInst
namespace Go.Proofs.Ytfnmplipbgdniaa
open Go.RowKit

theorem writes4_holds : Rows.CoderWritesSaid := writes4_holds_of encI decI nextI
#print axioms writes4_holds
end Go.Proofs.Ytfnmplipbgdniaa
