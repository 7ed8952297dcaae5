/-
  An argument that is a list of one-cell things (numbers, truth values), read as cells; no condition.
-/
import Derived.Test.YtfjlepnodmeaaaaActs
namespace Go.Proofs.Ytfjlepnodmeaaaa
open Go.ChangeShapes Go.WideShapes Go.ChangeAt Go.RowKit Go.Deep

/-- The k-th cell of what came in. -/
theorem Src.cellAt {α : Type} {w : World} {A : Option Addr} {n c k : Nat} {xs : List α} {f : α → Value} (h : Src w (.slice A n c) (xs.map f)) {x : α} (hk : xs[k]? = some x) : ∃ ad, A = some ad ∧ w.cell? (ad.add k) = some (f x) := by
  rcases h with ⟨_, h0⟩ | ⟨ad, c', h1, _, hc⟩
  · rw [List.map_eq_nil_iff.1 h0] at hk; simp at hk
  · injection h1 with h1
    exact ⟨ad, h1, hc k _ (by rw [List.getElem?_map, hk]; rfl)⟩

section
variable {H : Type} {enc : TypeId × Value → H} {w : World} {base : Nat} {spare : Nat → Bool} {held : Bool}
theorem open_cells {α : Type} [Inhabited α] {st e : TypeId} (f : α → Value) (hst : Try.prog.underlying st = some (.slice e)) (hc : Try.prog.cellsOf e = 1)
    (each : ∀ n' cs x, DataW.trod enc Try.prog w base spare held n' e cs = some x → ∃ a : α, cs = [f a])
    {n : Nat} {v : Value} {d : DataW H} {ps : List MemPlace} (h : DataW.trod enc Try.prog w base spare held n st [v] = some (d, ps)) :
    ∃ (A : Option Addr) (len cap : Nat) (l : List α), v = .slice A len cap ∧ l.length = len ∧ len ≤ maxLen ∧ Src w (.slice A len cap) (l.map f) := by
  rcases open_slice hst h with ⟨h0, -⟩ | ⟨a, len, cap, m, n', D, Pl, h0, -, hcap, hm, hmm, -, hi⟩
  · exact ⟨none, 0, 0, [], by simpa using h0, rfl, by simp, .inl ⟨rfl, rfl⟩⟩
  · have hlm : len ≤ m := by rw [hmm]; split <;> omega
    have each2 : ∀ i, i < len → ∃ x : α, w.cell? (a.add i) = some (f x) := by
      intro i hil
      obtain ⟨cs', hcs, ht⟩ := hi i (by omega)
      rw [hc, Nat.mul_one] at hcs
      obtain ⟨-, -, hcell⟩ := World.cells?_some hcs
      obtain ⟨x, rfl⟩ := each _ _ _ ht
      have := hcell 0 (by omega)
      simp only [Addr.add, if_pos, List.getElem?_cons_zero] at this
      exact ⟨x, this⟩
    obtain ⟨g, hg⟩ := choose_lt each2
    refine ⟨some a, len, cap, (List.range len).map g, by simpa using h0, by simp, by omega, .inr ⟨a, cap, by simp, by simpa using hcap, fun j u hu => ?_⟩⟩
    rw [List.getElem?_map, List.getElem?_map] at hu
    by_cases hj : j < len
    · rw [List.getElem?_range hj] at hu
      simp at hu
      rw [← hu]
      exact hg j hj
    · rw [List.getElem?_eq_none (by simpa using hj)] at hu
      simp at hu

/-- A number in a cell. -/
def C64 (x : UInt64) : Value := .int .u64 (x.toNat : Int)
def I64 (x : Int) : Value := .int .i64 x

end
end Go.Proofs.Ytfjlepnodmeaaaa
