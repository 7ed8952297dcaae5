/-
  The law CoderBack answers true whatever its input, and leaves its arguments as they were; no condition.
-/
import Derived.Test.YtfnmplipbgdniaaEBack
import Derived.Test.YtfnmplipbgdniaaCodInst
namespace Go.Proofs.Ytfnmplipbgdniaa
open Go.RowKit

theorem back4_holds : Rows.CoderBackSaid := back4_holds_of encI decI nextI
#print axioms back4_holds
end Go.Proofs.Ytfnmplipbgdniaa
