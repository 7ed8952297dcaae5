/-
  The law BookLearns (what comes again is shorter) answers true whatever its input, and leaves its arguments as they were; no condition.
-/
import Derived.Test.YtfjlepnodmeaaaaHLearns
import Derived.Test.YtfjlepnodmeaaaaBookInst
namespace Go.Proofs.Ytfjlepnodmeaaaa
open Go.RowKit

theorem learns5_holds : Rows.BookLearnsSaid := learns5_holds_of bookI
#print axioms learns5_holds
end Go.Proofs.Ytfjlepnodmeaaaa
