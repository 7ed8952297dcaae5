/-
  The live question of layer 1: alive answers true, from any memory; no condition.
-/
import Derived.Test.YtpdmjgcheigooaaBits6
import Derived.Test.YtpdmjgcheigooaaRef1g
namespace Go.Proofs.Ytpdmjgcheigooaa
open Go.RowKit

/-- All that a writer may write is new since w0. -/
def NewSince (w0 : World) (p : Nat) (v : Value) : Prop := w0.heap.size ≤ p ∧ ∀ k, v.ownBlock = some k → w0.heap.size ≤ k

theorem WFr.since {w0 w w' : World} {p : Nat} {v v' : Value} (h : WFr p v v' w w') (hf : Fr [] w0 w) (hn : NewSince w0 p v) : Fr [] w0 w' ∧ NewSince w0 p v' := by
  refine ⟨hf.trans h.1 ?_, hn.1, ?_⟩
  · intro x hx
    rcases List.mem_cons.1 hx with rfl | hx
    · exact .inr hn.1
    · exact .inr (hn.2 x (by simpa using hx))
  · intro k hk
    rcases h.2 with e | ⟨g, e, hg⟩
    · exact hn.2 k (e ▸ hk)
    · rw [e] at hk; injection hk with hk; subst hk; exact Nat.le_trans hf.size hg

theorem Wr.new (w : World) : Wr (w.alloc (.cells #[.slice none 0 0, .int .i64 0] 67)) w.heap.size (.slice none 0 0) [] := by
  refine ⟨[], Blk.new w _ _, Own.nil _ _, PackOf.nil, by simp [Value.ownBlock]⟩

theorem alive_bytes : PackOf [0xB0, 0x80] (digits 5 3 ++ digits 33 6) := PackOf.of_eight (by decide) (by decide)

end Go.Proofs.Ytpdmjgcheigooaa
