/-
  Contracts of the document's writer: Put; conditions: the lengths are bounded as named.
-/
import Derived.Test.YtpdmjgcheigooaaRef1c
import Derived.Deep.RegionHeld3
import Derived.Deep.RegionLaw
namespace Go.Proofs.Ytpdmjgcheigooaa
open Go.RowKit

/-- append onto bytes of the call's own, within a region that draws its order. -/
theorem step_append_u8 {w : World} {ops : Array Oper} {o : Oper} {a : Act} {K : Act → World → Prop} {Q : Exit → Act → World → Prop} {E : Prop} (s x : Operand) (v : Value) (xs : List UInt8) (src : Value) (news : List UInt8)
    (hgd : o.guard = none) (ho : o.op = .call { callee := .builtin .append, args := #[s, x], argTypes := #[23, 23] })
    (hv : a.eval s = v) (hsv : a.eval x = src) (hown : Own w 5 v (xs.map B8)) (hs : Src w src (news.map B8)) (hlen : xs.length + news.length ≤ 1000000000000)
    (h : ∀ A c w', Own w' 5 (.slice A (xs.length + news.length) c) ((xs ++ news).map B8) → Own1 v (.slice A (xs.length + news.length) c) w w' → K (a.put o.dst (.slice A (xs.length + news.length) c)) w') :
    if Region.wanted o (yielded ops a.tmps) = true then Oper.wp Try.prog o a w K Q else E := by
  rw [if_pos (by simp [Region.wanted, hgd])]
  obtain ⟨i, hi, hz, h1, h2⟩ := info_parts info_u8
  refine wp_append_mine s x 23 5 i _ 1 ho Try.underlying23 hi hz h1 h2 rfl v _ src _ hv hsv hown hs ?_ ?_ ?_ ?_
  · intro u hu
    obtain ⟨b, _, rfl⟩ := List.mem_map.1 hu
    rfl
  · simp only [List.length_map, maxLen]; omega
  · simp only [List.length_map]; omega
  · intro A c w' k1 k2
    rw [← List.map_append] at k1
    simp only [List.length_map] at k1 k2 ⊢
    exact h A c w' k1 k2

/-- The document's writer: the bits L. -/
def Rw (w : World) (p : Nat) (v : Value) (L : List Bool) : Prop :=
  Blk w p 37 #[v] ∧ Own w 5 v ((bitsU L).map B8) ∧ v.ownBlock ≠ some p

theorem Rw.fr {w w' : World} {p : Nat} {v : Value} {L : List Bool} {S : List Nat} (h : Rw w p v L) (hf : Fr S w w') (h1 : p ∉ S) (h2 : ∀ k, v.ownBlock = some k → k ∉ S) : Rw w' p v L := by
  obtain ⟨hb, ho, hn⟩ := h
  exact ⟨hb.fr hf h1, ho.fr hf h2, hn⟩
theorem Rw.lt {w : World} {p : Nat} {v : Value} {L : List Bool} (h : Rw w p v L) : p < w.heap.size := h.1.lt
theorem Rw.lt2 {w : World} {p : Nat} {v : Value} {L : List Bool} (h : Rw w p v L) : ∀ k, v.ownBlock = some k → k < w.heap.size := h.2.1.lt

theorem keep_cell {w2 w3 w4 : World} {v v' u : Value} {p : Nat} (h1 : w3.cell? ⟨p, 0, none⟩ = w2.cell? ⟨p, 0, none⟩) (h2 : w3.frozen? ⟨p, 0, none⟩ = w2.frozen? ⟨p, 0, none⟩) (hG : Own1 v v' w3 w4) (hp : p < w3.heap.size) (hv : v.ownBlock ≠ some p)
    (c0 : w2.cell? ⟨p, 0, none⟩ = some u) (c1 : w2.frozen? ⟨p, 0, none⟩ = false) : w4.cell? ⟨p, 0, none⟩ = some u ∧ w4.frozen? ⟨p, 0, none⟩ = false :=
  ⟨(hG.1.cell (p := ⟨p, 0, none⟩) hp (not_own hv)).trans (h1.trans c0), (hG.1.frozen (p := ⟨p, 0, none⟩) hp (not_own hv)).trans (h2.trans c1)⟩

end Go.Proofs.Ytpdmjgcheigooaa
