/-
  Bytes that a call made for itself: their cells, what a store does, what is appended. No law's text here.
-/
import Derived.Test.YtfjlepnodmeaaaaBits3
import Derived.Test.YtfjlepnodmeaaaaZero
namespace Go.Proofs.Ytfjlepnodmeaaaa
open Go.RowKit

/-- Bytes in memory that is new since w0. -/
structure Mine (w0 w : World) (v : Value) (bs : List UInt8) : Prop where
  own : Own w 5 v (bs.map B8)
  fr : Fr [] w0 w
  new : ∀ k, v.ownBlock = some k → w0.heap.size ≤ k

section
variable {w0 w w' : World} {v : Value} {bs : List UInt8}
theorem Mine.fr0 (h : Mine w0 w v bs) (hf : Fr [] w w') : Mine w0 w' v bs := ⟨h.own.fr hf (by simp), h.fr.trans hf (by simp), h.new⟩
theorem Mine.src (h : Mine w0 w v bs) : Src w v (bs.map B8) := h.own.src
theorem Mine.copied {xs : List UInt8} {vo : Value} (hO : Own w' 5 vo (xs.map B8)) (hG : Own1 (.slice (some ⟨w.heap.size, 0, none⟩) 0 0) vo (w.alloc (.cells #[] 5)) w') (hF : Fr [] w0 w) : Mine w0 w' vo xs := by
  refine ⟨hO, (hF.alloc _).trans hG.1 (by intro x hx; simp [Value.ownBlock] at hx; subst hx; exact .inr hF.size), ?_⟩
  intro k hk
  have := hF.size
  rcases hG.2 with e | ⟨g, e, hg⟩
  · rw [e] at hk; simp [Value.ownBlock] at hk; omega
  · rw [e] at hk; injection hk with hk; subst hk; simp at hg; omega
theorem Mine.appended {v' : Value} {xs ys : List UInt8} (h : Mine w0 w v xs) (hO : Own w' 5 v' ((xs ++ ys).map B8)) (hG : Own1 v v' w w') : Mine w0 w' v' (xs ++ ys) := by
  refine ⟨hO, h.fr.trans hG.1 (by intro x hx; exact .inr (h.new x (by simpa using hx))), ?_⟩
  intro k hk
  have := h.fr.size
  rcases hG.2 with e | ⟨g, e, hg⟩
  · rw [e] at hk; exact h.new k hk
  · rw [e] at hk; injection hk with hk; subst hk; omega
theorem Mine.slice (h : Mine w0 w v bs) : ∃ A c, v = .slice A bs.length c := by
  rcases h.own.form with ⟨rfl, h0⟩ | ⟨g, cap, cur, rfl, -⟩
  · exact ⟨none, 0, by have := congrArg List.length h0; simp at this; rw [this]; rfl⟩
  · exact ⟨_, _, by simp; exact ⟨rfl, rfl⟩⟩
/-- A cell, to be read and written. -/
theorem Mine.cell {A : Option Addr} {n c j : Nat} (h : Mine w0 w (.slice A n c) bs) (hj : j < bs.length) :
    ∃ g, A = some ⟨g, 0, none⟩ ∧ w0.heap.size ≤ g ∧ w.cell? ⟨g, j, none⟩ = some (.int .u8 ((bs.getD j 0).toNat : Int)) ∧ w.frozen? ⟨g, j, none⟩ = false ∧ n = bs.length ∧
      ∀ z : UInt8, Mine w0 (w.setCell ⟨g, j, none⟩ (.int .u8 (z.toNat : Int))) (.slice A n c) (bs.set j z) ∧ Fr [g] w (w.setCell ⟨g, j, none⟩ (.int .u8 (z.toNat : Int))) := by
  obtain ⟨g, rfl, h1, h2, h3, h4⟩ := h.own.cell (j := j) (by simpa using hj)
  refine ⟨g, rfl, h.new g rfl, ?_, h2, by simpa using h3, fun z => ⟨⟨?_, h.fr.setCell (.inr (h.new g rfl)) _, h.new⟩, (Fr.refl _ _).setCell (.inl (by simp)) _⟩⟩
  · rw [h1, List.getElem?_map, List.getElem?_eq_getElem hj, List.getD_eq_getElem?_getD, List.getElem?_eq_getElem hj]; rfl
  · have := h.own.set j (.int .u8 (z.toNat : Int))
    rw [List.map_set]
    exact this
end

theorem Mine.nil (w : World) : Mine w w (.slice none 0 0) [] := ⟨Own.nil _ _, Fr.refl _ _, by simp [Value.ownBlock]⟩

/-- append of a made row of bytes, onto bytes of the call's own. -/
theorem wp_append_zeros_u8 {w : World} {ops : Array Oper} {rest : List Oper} {o : Oper} {a : Act} {Q : Exit → Act → World → Prop} (s x : Operand) (v : Value) (xs : List UInt8) (m : Nat)
    (hgd : o.guard = none) (ho : o.op = .call { callee := .builtin .append, args := #[s, x], argTypes := #[37, 3] })
    (hv : a.eval s = v) (hm : a.eval x = .int .i64 (m : Int)) (hown : Own w 5 v (xs.map B8)) (hlen : xs.length + m ≤ 1000000000000)
    (h : ∀ v' w', Own w' 5 v' ((xs ++ List.replicate m 0).map B8) → Own1 v v' w w' → wpList Try.prog ops Q rest (a.put o.dst v') w') : wpList Try.prog ops Q (o :: rest) a w := by
  obtain ⟨i, hi, hz, h1, h2⟩ := info_parts info_u8
  refine wpList_append_zeros s x 37 3 5 i _ 1 hgd ho Try.underlying37 Try.underlying3 hi hz h1 h2 rfl rfl v _ m hv hm hown ?_ ?_ ?_ ?_
  · simp only [List.length_map, maxLen]; omega
  · simp only [List.length_map]; omega
  · omega
  · intro v' w' k1 k2
    refine h v' w' ?_ k2
    rw [List.map_append, List.map_replicate]
    exact k1

/-- append onto bytes of the call's own, behind a test that held. -/
theorem wp_append_u8G {w : World} {ops : Array Oper} {rest : List Oper} {o : Oper} {a : Act} {Q : Exit → Act → World → Prop} (s x : Operand) (v : Value) (xs : List UInt8) (src : Value) (news : List UInt8)
    (hw : Region.wanted o (yielded ops a.tmps) = true) (ho : o.op = .call { callee := .builtin .append, args := #[s, x], argTypes := #[37, 37] })
    (hv : a.eval s = v) (hsv : a.eval x = src) (hown : Own w 5 v (xs.map B8)) (hs : Src w src (news.map B8)) (hlen : xs.length + news.length ≤ 1000000000000)
    (h : ∀ v' w', Own w' 5 v' ((xs ++ news).map B8) → Own1 v v' w w' → wpList Try.prog ops Q rest (a.put o.dst v') w') : wpList Try.prog ops Q (o :: rest) a w := by
  refine wpList_step fun K hK => ?_
  rw [if_pos hw]
  obtain ⟨i, hi, hz, h1, h2⟩ := info_parts info_u8
  refine wp_append_mine s x 37 5 i _ 1 ho Try.underlying37 hi hz h1 h2 rfl v _ src _ hv hsv hown hs ?_ ?_ ?_ ?_
  · intro u hu
    obtain ⟨b, _, rfl⟩ := List.mem_map.1 hu
    rfl
  · simp only [List.length_map, maxLen]; omega
  · simp only [List.length_map]; omega
  · intro A c w' k1 k2
    rw [← List.map_append] at k1
    exact hK _ _ (h _ _ k1 k2)

end Go.Proofs.Ytfjlepnodmeaaaa
