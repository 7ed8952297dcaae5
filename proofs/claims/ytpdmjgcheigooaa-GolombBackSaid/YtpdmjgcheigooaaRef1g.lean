/-
  Contracts of the document's reader: Align and Rest; conditions: the lengths are bounded as named.
-/
import Derived.Test.YtpdmjgcheigooaaRef1f
namespace Go.Proofs.Ytpdmjgcheigooaa
open Go.RowKit

/-- P where the number is 0, else Q. -/
def Alt (z : Nat) (P Q : Prop) : Prop := (z = 0 ∧ P) ∨ (z ≠ 0 ∧ Q)

theorem part_zero (l : List Bool) (i k : Nat) : number ((l.drop i).take k) = 0 ↔ ∀ t, i ≤ t → t < i + k → l.getD t false = false := by
  rw [number_zero_iff]
  constructor
  · intro h t h1 h2
    by_cases ht : t < l.length
    · have : l.getD t false ∈ (l.drop i).take k := by
        rw [List.mem_iff_getElem?]
        refine ⟨t - i, ?_⟩
        rw [List.getElem?_take, if_pos (by omega), List.getElem?_drop, show i + (t - i) = t by omega, List.getD_eq_getElem?_getD, List.getElem?_eq_getElem ht]; rfl
      exact h _ this
    · rw [List.getD_eq_getElem?_getD, List.getElem?_eq_none (by omega)]; rfl
  · intro h b hb
    obtain ⟨t, ht⟩ := List.mem_iff_getElem?.1 hb
    rw [List.getElem?_take] at ht
    split at ht
    · rw [List.getElem?_drop] at ht
      have := h (i + t) (by omega) (by omega)
      rw [List.getD_eq_getElem?_getD, ht] at this
      exact this
    · cases ht

end Go.Proofs.Ytpdmjgcheigooaa
