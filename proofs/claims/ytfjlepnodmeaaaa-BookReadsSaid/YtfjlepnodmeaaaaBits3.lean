/-
  Contracts of copied, (*Writer).Bytes and (*Writer).Align; conditions: the lengths are bounded as named.
-/
import Derived.Test.YtfjlepnodmeaaaaBits2
namespace Go.Proofs.Ytfjlepnodmeaaaa
open Go.RowKit

theorem B8_one (xs : List UInt8) : ∀ u ∈ xs.map B8, u.oneCell' = true := by
  intro u hu
  obtain ⟨b, _, rfl⟩ := List.mem_map.1 hu
  rfl

/-- A new row that holds the bytes xs. -/
def NewBytes (w : World) (xs : List UInt8) (e : Ending) (w' : World) : Prop :=
  ∃ c, e = .returned (.slice (some ⟨w.heap.size, 0, none⟩) xs.length c) ∧ Own w' 5 (.slice (some ⟨w.heap.size, 0, none⟩) xs.length c) (xs.map B8) ∧ Fr [] w w'

end Go.Proofs.Ytfjlepnodmeaaaa
