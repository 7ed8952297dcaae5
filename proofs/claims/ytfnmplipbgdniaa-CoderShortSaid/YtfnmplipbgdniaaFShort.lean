/-
  The law CoderShort answers true whatever its input, and leaves its arguments as they were; no condition.
-/
import Derived.Test.YtfnmplipbgdniaaEShort
import Derived.Test.YtfnmplipbgdniaaCodInst
namespace Go.Proofs.Ytfnmplipbgdniaa
open Go.RowKit

theorem short4_holds : Rows.CoderShortSaid := short4_holds_of encI decI nextI
#print axioms short4_holds
end Go.Proofs.Ytfnmplipbgdniaa
