/-
  The law CoderNil answers true whatever its input, and leaves its arguments as they were; no condition.
-/
import Derived.Test.YtfnmplipbgdniaaENil
import Derived.Test.YtfnmplipbgdniaaCodInst
namespace Go.Proofs.Ytfnmplipbgdniaa
open Go.RowKit

theorem nil4_holds : Rows.CoderNilSaid := nil4_holds_of encI decI nextI
#print axioms nil4_holds
end Go.Proofs.Ytfnmplipbgdniaa
