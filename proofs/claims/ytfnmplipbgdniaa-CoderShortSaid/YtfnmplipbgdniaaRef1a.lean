/-
  Contracts of the document's Digits and Number; conditions: the lengths are bounded as named.
-/
import Derived.Test.YtfnmplipbgdniaaBits3
namespace Go.Proofs.Ytfnmplipbgdniaa
open Go.RowKit

/-- A bit as a byte. -/
def u8b (b : Bool) : UInt8 := if b then 1 else 0
def bitsU (l : List Bool) : List UInt8 := l.map u8b
@[simp] theorem bitsU_length (l : List Bool) : (bitsU l).length = l.length := by simp [bitsU]
theorem bitsU_append (a b : List Bool) : bitsU (a ++ b) = bitsU a ++ bitsU b := by simp [bitsU]
theorem B8_u8b (b : Bool) : B8 (u8b b) = .int .u8 (b.toNat : Int) := by cases b <;> rfl

/-- A row of bytes in new memory. -/
def NewRow (w : World) (xs : List UInt8) (e : Ending) (w' : World) : Prop :=
  ∃ v, e = .returned v ∧ Own w' 5 v (xs.map B8) ∧ Fr [] w w' ∧ ∀ k, v.ownBlock = some k → w.heap.size ≤ k

theorem NewBytes.row {w : World} {xs : List UInt8} {e : Ending} {w' : World} (h : NewBytes w xs e w') : NewRow w xs e w' := by
  obtain ⟨c, h1, h2, h3⟩ := h
  exact ⟨_, h1, h2, h3, fun k hk => by simp [Value.ownBlock] at hk; omega⟩

/-- The k-th cell of bytes that came in. -/
theorem Src.at_ {w : World} {A : Option Addr} {n c k : Nat} {xs : List UInt8} (h : Src w (.slice A n c) (xs.map B8)) (hk : k < xs.length) : ∃ ad, A = some ad ∧ w.cell? (ad.add k) = some (B8 (xs.getD k 0)) := by
  rcases h with ⟨_, h0⟩ | ⟨ad, c', h1, _, hc⟩
  · rw [List.map_eq_nil_iff.1 h0] at hk; simp at hk
  · injection h1 with h1
    refine ⟨ad, h1, hc k _ ?_⟩
    rw [List.getElem?_map, List.getElem?_eq_getElem hk, List.getD_eq_getElem?_getD, List.getElem?_eq_getElem hk]; rfl
theorem Src.slice {w : World} {src : Value} {xs : List UInt8} (h : Src w src (xs.map B8)) : ∃ A c, src = .slice A xs.length c := by
  rcases h with ⟨rfl, h⟩ | ⟨ad, c, rfl, -⟩
  · exact ⟨_, _, by rw [List.map_eq_nil_iff.1 h]; rfl⟩
  · exact ⟨_, _, by rw [List.length_map]⟩

theorem number_append_opt (l : List Bool) (k : Nat) (h : k < l.length) : number (l.take k ++ l[k]?.toList) = 2 * number (l.take k) + (l.getD k false).toNat := by
  rw [List.getElem?_eq_getElem h, List.getD_eq_getElem?_getD, List.getElem?_eq_getElem h]
  exact number_append _ _

end Go.Proofs.Ytfnmplipbgdniaa
