/-
  The law CoderFair answers true whatever its input, and leaves its arguments as they were; no condition.
-/
import Derived.Test.YtfnmplipbgdniaaEFair
import Derived.Test.YtfnmplipbgdniaaCodInst
namespace Go.Proofs.Ytfnmplipbgdniaa
open Go.RowKit

theorem fair4_holds : Rows.CoderFairSaid := fair4_holds_of encI decI nextI
#print axioms fair4_holds
end Go.Proofs.Ytfnmplipbgdniaa
