/-
  The law BookNil (no book) answers true whatever its input, and leaves its arguments as they were; no condition.
-/
import Derived.Test.YtfjlepnodmeaaaaHNil
import Derived.Test.YtfjlepnodmeaaaaBookInst
namespace Go.Proofs.Ytfjlepnodmeaaaa
open Go.RowKit

theorem nil5_holds : Rows.BookNilSaid := nil5_holds_of bookI
#print axioms nil5_holds
end Go.Proofs.Ytfjlepnodmeaaaa
