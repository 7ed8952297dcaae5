/-
  The law BookReads (of any bytes the numbers that are got) answers true whatever its input, and leaves its arguments as they were; no condition.
-/
import Derived.Test.YtfjlepnodmeaaaaHReads
import Derived.Test.YtfjlepnodmeaaaaBookInst
namespace Go.Proofs.Ytfjlepnodmeaaaa
open Go.RowKit

theorem reads5_holds : Rows.BookReadsSaid := reads5_holds_of bookI
#print axioms reads5_holds
end Go.Proofs.Ytfjlepnodmeaaaa
