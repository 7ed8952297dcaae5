/-
  The law CoderReads answers true whatever its input, and leaves its arguments as they were; no condition.
-/
import Derived.Test.YtfnmplipbgdniaaEReads
import Derived.Test.YtfnmplipbgdniaaCodInst
namespace Go.Proofs.Ytfnmplipbgdniaa
open Go.RowKit

theorem reads4_holds : Rows.CoderReadsSaid := reads4_holds_of encI decI nextI
#print axioms reads4_holds
end Go.Proofs.Ytfnmplipbgdniaa
