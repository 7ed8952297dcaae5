/-
  Contracts of (*Reader).Align; conditions: the lengths are bounded as named.
-/
import Derived.Test.YtpdmjgcheigooaaBits5
namespace Go.Proofs.Ytpdmjgcheigooaa
open Go.RowKit

theorem Rd.moved {w : World} {q a k : Nat} {v : Value} {bs : List UInt8} (hB : Blk w q 70 #[v, .int .i64 (a : Int)]) (hO : Own w 5 v (bs.map B8)) (hne : v.ownBlock ≠ some q) (hk : a + k ≤ 8 * bs.length) :
    Rd (w.setCell ⟨q, 1, none⟩ (.int .i64 ((a : Int) + (k : Int)))) q v bs (a + k) := by
  have h1 := hB.set_ 1 (Value.int .i64 ((a : Int) + (k : Int)))
  refine ⟨by simpa using h1, ?_, hk, hne⟩
  exact hO.fr (S := [q]) ((Fr.refl [q] _).setCell (p := ⟨q, 1, none⟩) (.inl (by simp)) (Value.int .i64 ((a : Int) + (k : Int)))) (fun j hj => by rw [hj] at hne; simpa using hne)

end Go.Proofs.Ytpdmjgcheigooaa
