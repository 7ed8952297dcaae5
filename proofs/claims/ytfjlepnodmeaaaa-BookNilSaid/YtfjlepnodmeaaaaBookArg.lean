/-
  A script of a book's acts as an argument: its cells. No condition.
-/
import Derived.Test.YtfjlepnodmeaaaaBookSpec
import Derived.Test.YtfjlepnodmeaaaaSrc
namespace Go.Proofs.Ytfjlepnodmeaaaa
open Go.RowKit Go.ChangeShapes Go.WideShapes Go.ChangeAt Go.Deep

/-- An act at a place. -/
def ActAt (w : World) (g o : Nat) (a : Act5) : Prop :=
  w.cell? ⟨g, o, none⟩ = some (.int .i64 a.1) ∧ w.cell? ⟨g, o + 1, none⟩ = some (.int .i64 a.2.1) ∧ w.cell? ⟨g, o + 2, none⟩ = some (.int .i64 a.2.2.1) ∧ w.cell? ⟨g, o + 3, none⟩ = some (.int .i64 a.2.2.2)
def Acts5 (w : World) (A : Option Addr) (len : Nat) (acts : List Act5) : Prop :=
  acts.length = len ∧ ∀ (i : Nat) (a : Act5), acts[i]? = some a → InA a ∧ ∃ g o, A = some ⟨g, o, none⟩ ∧ ActAt w g (o + i * 4) a
theorem ActAt.fr {w w' : World} {g o : Nat} {a : Act5} (h : ActAt w g o a) (hf : Fr [] w w') : ActAt w' g o a := by
  have f : ∀ (j : Nat) (u : Value), w.cell? ⟨g, j, none⟩ = some u → w'.cell? ⟨g, j, none⟩ = some u := fun j u hu => (hf.cell (World.block_lt_of_cell? w _ hu) (by simp)).trans hu
  exact ⟨f _ _ h.1, f _ _ h.2.1, f _ _ h.2.2.1, f _ _ h.2.2.2⟩
theorem Acts5.fr {w w' : World} {A : Option Addr} {len : Nat} {acts : List Act5} (h : Acts5 w A len acts) (hf : Fr [] w w') : Acts5 w' A len acts := by
  refine ⟨h.1, fun i a hi => ?_⟩
  obtain ⟨ha, g, o, rfl, h1⟩ := h.2 i a hi
  exact ⟨ha, g, o, rfl, h1.fr hf⟩

section
variable {H : Type} {enc : TypeId × Value → H} {w : World} {base : Nat} {spare : Nat → Bool} {held : Bool}
set_option maxRecDepth 20000 in
theorem open_act5 {n : Nat} {cs : List Value} {x : DataW H × List MemPlace} (h : DataW.trod enc Try.prog w base spare held n 33 cs = some x) :
    ∃ (a : Act5), cs = [.int .i64 a.1, .int .i64 a.2.1, .int .i64 a.2.2.1, .int .i64 a.2.2.2] ∧ InA a := by
  obtain ⟨xs, n', -, -, hl, hx, hf⟩ := DataW.trod_struct Try.underlying33 h
  have hx2 : xs.length = 4 := hx
  have hl2 : cs.length = 4 := hl.trans (by kernel_rfl)
  match cs, hl2, xs, hx2 with
  | [c0, c1, c2, c3], _, [y0, y1, y2, y3], _ =>
    have e0 : Try.prog.cellsOf 3 = 1 := by kernel_rfl
    have g0 : DataW.trod enc Try.prog w base spare held n' 3 (([c0, c1, c2, c3].drop 0).take (Try.prog.cellsOf 3)) = some y0 := hf 0 _ rfl
    have g1 : DataW.trod enc Try.prog w base spare held n' 3 (([c0, c1, c2, c3].drop 1).take (Try.prog.cellsOf 3)) = some y1 := hf 1 _ rfl
    have g2 : DataW.trod enc Try.prog w base spare held n' 3 (([c0, c1, c2, c3].drop 2).take (Try.prog.cellsOf 3)) = some y2 := hf 2 _ rfl
    have g3 : DataW.trod enc Try.prog w base spare held n' 3 (([c0, c1, c2, c3].drop 3).take (Try.prog.cellsOf 3)) = some y3 := hf 3 _ rfl
    rw [e0] at g0 g1 g2 g3
    obtain ⟨k0, h0, -, v0⟩ := DataW.trod_int Try.underlying3 g0
    obtain ⟨k1, h1, -, v1⟩ := DataW.trod_int Try.underlying3 g1
    obtain ⟨k2, h2, -, v2⟩ := DataW.trod_int Try.underlying3 g2
    obtain ⟨k3, h3, -, v3⟩ := DataW.trod_int Try.underlying3 g3
    simp [Lit.wf, IntKind.min, IntKind.max, IntKind.signed, IntKind.bits] at v0 v1 v2 v3
    simp at h0 h1 h2 h3
    exact ⟨(k0, k1, k2, k3), by rw [h0, h1, h2, h3], ⟨by unfold InI; omega, by unfold InI; omega, by unfold InI; omega, by unfold InI; omega⟩⟩

theorem open_acts5 {n : Nat} {v : Value} {d : DataW H} {ps : List MemPlace} (h : DataW.trod enc Try.prog w base spare held n 22 [v] = some (d, ps)) :
    ∃ (A : Option Addr) (len cap : Nat) (acts : List Act5), v = .slice A len cap ∧ Acts5 w A len acts ∧ len ≤ maxLen := by
  rcases open_slice Try.underlying22 h with ⟨h0, -⟩ | ⟨a, len, cap, m, n', D, Pl, h0, -, hc, hm, hmm, -, hi⟩
  · refine ⟨none, 0, 0, [], by simpa using h0, ⟨rfl, fun i k h => by simp at h⟩, by simp⟩
  · have hlm : len ≤ m := by rw [hmm]; split <;> omega
    have e3 : Try.prog.cellsOf 33 = 4 := by kernel_rfl
    have each : ∀ i, i < len → ∃ x : Act5, InA x ∧ w.cell? (a.add (i * 4)) = some (.int .i64 x.1) ∧ w.cell? ((a.add (i * 4)).add 1) = some (.int .i64 x.2.1) ∧ w.cell? ((a.add (i * 4)).add 2) = some (.int .i64 x.2.2.1) ∧ w.cell? ((a.add (i * 4)).add 3) = some (.int .i64 x.2.2.2) := by
      intro i hil
      obtain ⟨cs', hcs, ht⟩ := hi i (by omega)
      rw [e3] at hcs
      obtain ⟨-, -, hcell⟩ := World.cells?_some hcs
      obtain ⟨x, rfl, hx⟩ := open_act5 ht
      exact ⟨x, hx, hcell 0 (by omega), hcell 1 (by omega), hcell 2 (by omega), hcell 3 (by omega)⟩
    let f : Nat → Act5 := fun i => if hil : i < len then Classical.choose (each i hil) else (0, 0, 0, 0)
    have hf : ∀ i, i < len → InA (f i) ∧ w.cell? (a.add (i * 4)) = some (.int .i64 (f i).1) ∧ w.cell? ((a.add (i * 4)).add 1) = some (.int .i64 (f i).2.1) ∧ w.cell? ((a.add (i * 4)).add 2) = some (.int .i64 (f i).2.2.1) ∧ w.cell? ((a.add (i * 4)).add 3) = some (.int .i64 (f i).2.2.2) := by
      intro i hil
      simp only [f, dif_pos hil]
      exact Classical.choose_spec (each i hil)
    refine ⟨some a, len, cap, (List.range len).map f, by simpa using h0, ⟨by simp, fun i k hx => ?_⟩, by omega⟩
    have hil : i < len := by
      have := (List.getElem?_eq_some_iff.1 hx).1
      simpa using this
    have hfi : f i = k := by
      rw [List.getElem?_map, List.getElem?_range hil] at hx
      simpa using hx
    obtain ⟨g0, g1, g2, g3, g4⟩ := hf i hil
    rw [hfi] at g0 g1 g2 g3 g4
    obtain ⟨-, p1, -⟩ := hf 0 (by omega)
    simp only [Nat.zero_mul, Addr.add, if_pos] at p1
    have ha := plain_of_cell p1
    rw [ha] at g1 g2 g3 g4 ⊢
    rw [add_plain] at g1 g2 g3 g4
    rw [add_plain] at g2 g3 g4
    exact ⟨g0, _, _, rfl, g1, g2, g3, g4⟩
end
end Go.Proofs.Ytfjlepnodmeaaaa
