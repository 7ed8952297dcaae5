/-
  Contracts of the document's writer (Align) and reader (Open, next); conditions: the lengths are bounded as named.
-/
import Derived.Test.YtpdmjgcheigooaaRef1d
import Derived.Deep.LoopGhost
namespace Go.Proofs.Ytpdmjgcheigooaa
open Go.RowKit

theorem ralign_pad (L : List Bool) : L ++ List.replicate ((8 - L.length % 8) % 8) false = if L.length % 8 = 0 then L else (L ++ [false]) ++ List.replicate ((8 - (L ++ [false]).length % 8) % 8) false := by
  split
  · rename_i h; simp [h]
  · rename_i h
    obtain ⟨k, hk⟩ : ∃ k, (8 - L.length % 8) % 8 = k + 1 := ⟨(8 - L.length % 8) % 8 - 1, by omega⟩
    have hk2 : (8 - (L ++ [false]).length % 8) % 8 = k := by simp; omega
    rw [hk, hk2, List.append_assoc]
    rfl

/-- The document's reader: the bits l; it is at bit i. -/
def Rr (w : World) (q : Nat) (v : Value) (l : List Bool) (i : Nat) : Prop :=
  Blk w q 58 #[v, .int .i64 (i : Int)] ∧ Own w 5 v ((bitsU l).map B8) ∧ i ≤ l.length ∧ v.ownBlock ≠ some q

theorem Rr.fr {w w' : World} {p : Nat} {v : Value} {l : List Bool} {a : Nat} {S : List Nat} (h : Rr w p v l a) (hf : Fr S w w') (h1 : p ∉ S) (h2 : ∀ k, v.ownBlock = some k → k ∉ S) : Rr w' p v l a := by
  obtain ⟨hb, ho, hp, hn⟩ := h
  exact ⟨hb.fr hf h1, ho.fr hf h2, hp, hn⟩
theorem Rr.lt {w : World} {p : Nat} {v : Value} {l : List Bool} {a : Nat} (h : Rr w p v l a) : p < w.heap.size := h.1.lt
theorem Rr.lt2 {w : World} {p : Nat} {v : Value} {l : List Bool} {a : Nat} (h : Rr w p v l a) : ∀ k, v.ownBlock = some k → k < w.heap.size := h.2.1.lt
theorem Rr.slice {w : World} {q : Nat} {v : Value} {l : List Bool} {a : Nat} (h : Rr w q v l a) : ∃ A c, v = .slice A l.length c ∧ l.length ≤ c := by
  rcases h.2.1.form with ⟨rfl, h0⟩ | ⟨g, cap, cur, rfl, -, hc, -⟩
  · have : l.length = 0 := by have := congrArg List.length h0; simpa using this
    exact ⟨none, 0, by rw [this], by omega⟩
  · simp only [List.length_map, bitsU_length] at *
    exact ⟨_, _, rfl, hc⟩
theorem Rr.moved {w : World} {q a : Nat} {v : Value} {l : List Bool} (hB : Blk w q 58 #[v, .int .i64 (a : Int)]) (hO : Own w 5 v ((bitsU l).map B8)) (hne : v.ownBlock ≠ some q) (b : Nat) (hb : b ≤ l.length) :
    Rr (w.setCell ⟨q, 1, none⟩ (.int .i64 (b : Int))) q v l b := by
  have h1 := hB.set_ 1 (Value.int .i64 (b : Int))
  refine ⟨by simpa using h1, ?_, hb, hne⟩
  exact hO.fr (S := [q]) ((Fr.refl [q] _).setCell (p := ⟨q, 1, none⟩) (.inl (by simp)) (Value.int .i64 (b : Int))) (fun j hj => by rw [hj] at hne; simpa using hne)

theorem ropen_any (src : Value) (bs : List UInt8) (w : World) (hs : Src w src (bs.map B8)) (hn : bs.length ≤ 10000000000) :
    Calls Try.prog 24 #[src] w fun e w' => ∃ q v, e = .returned (.pointer (some ⟨q, 0, none⟩)) ∧ Rr w' q v (rowOf bs) 0 ∧ Fr [] w w' ∧ w.heap.size ≤ q ∧ (∀ k, v.ownBlock = some k → w.heap.size ≤ k) := by
  have HC := Lib.hid (row_any src bs w hs hn)
  go_enter Try.func24, Try.ntmps24
  go_wp2_with fail
  refine HC.out.mono ?_
  rintro e w' ⟨v, rfl, h1, h2, h3⟩
  obtain ⟨A, c, rfl⟩ := h1.src.slice
  have hlt := h1.lt
  have H1 := Lib.hid h1; clear h1
  have H3 := Lib.hid h3; clear h3
  have HL := Lib.hid hlt; clear hlt
  go_wp2_with fail
  go_ret
  refine ⟨_, .slice A (bitsU (rowOf bs)).length c, rfl, ⟨?_, H1.out.alloc _, by omega, ?_⟩, h2.alloc _, h2.size, H3.out⟩
  · have := Blk.new w' 58 #[.slice A (bitsU (rowOf bs)).length c, .int .i64 0]
    simpa using this
  · intro h; have := HL.out _ h; omega

end Go.Proofs.Ytpdmjgcheigooaa
