/-
  An argument that is a list of acts, read as cells: kind, width and number of each; no condition.
-/
import Derived.Test.YtgdfjoionaedgaaLaw
import Derived.Test.YtgdfjoionaedgaaRows
import Derived.Deep.Slices
import Derived.Deep.Fields
namespace Go.Proofs.Ytgdfjoionaedgaa
open Go.ChangeShapes Go.WideShapes Go.ChangeAt Go.RowKit Go.Deep

/-- The script's acts as cells: kind, width, number of each. -/
def Acts (w : World) (A : Option Addr) (len : Nat) (acts : List (Int × Int × Nat)) : Prop :=
  acts.length = len ∧ ∀ (i : Nat) (k n : Int) (v : Nat), acts[i]? = some (k, n, v) → v < 18446744073709551616 ∧ ∃ b o, A = some ⟨b, o, none⟩ ∧
    w.cell? ⟨b, o + i * 3, none⟩ = some (.int .i64 k) ∧ w.cell? ⟨b, o + i * 3 + 1, none⟩ = some (.int .i64 n) ∧ w.cell? ⟨b, o + i * 3 + 2, none⟩ = some (.int .u64 (v : Int))

theorem Acts.fr {w w' : World} {A : Option Addr} {len : Nat} {acts : List (Int × Int × Nat)} (h : Acts w A len acts) (hf : Fr [] w w') : Acts w' A len acts := by
  refine ⟨h.1, fun i k n v hi => ?_⟩
  obtain ⟨hv, b, o, rfl, h1, h2, h3⟩ := h.2 i k n v hi
  have f : ∀ (j : Nat) (u : Value), w.cell? ⟨b, j, none⟩ = some u → w'.cell? ⟨b, j, none⟩ = some u := fun j u hu => (hf.cell (World.block_lt_of_cell? w _ hu) (by simp)).trans hu
  exact ⟨hv, b, o, rfl, f _ _ h1, f _ _ h2, f _ _ h3⟩

theorem plain_of_cell {w : World} {a : Addr} {u : Value} (h : w.cell? a = some u) : a = ⟨a.block, a.off, none⟩ := by
  cases he : a.spot with
  | none => cases a; simp at he ⊢; exact he
  | some x =>
    unfold World.cell? at h
    simp only [he, Option.isSome_some, if_true] at h
    split at h <;> cases h

theorem add_plain (b o j : Nat) : (⟨b, o, none⟩ : Addr).add j = ⟨b, o + j, none⟩ := by
  by_cases hj : j = 0
  · subst hj; simp [Addr.add]
  · simp [Addr.add, hj]

theorem u64_nat {x : Int} (h : (Lit.int .u64 x).wf = true) : ∃ v : Nat, x = (v : Int) ∧ v < 18446744073709551616 := by
  simp [Lit.wf, IntKind.min, IntKind.max, IntKind.signed, IntKind.bits] at h
  exact ⟨x.toNat, by omega, by omega⟩

section
variable {H : Type} {enc : TypeId × Value → H} {w : World} {base : Nat} {spare : Nat → Bool} {held : Bool}
theorem open_act {n : Nat} {cs : List Value} {x : DataW H × List MemPlace} (h : DataW.trod enc Try.prog w base spare held n 31 cs = some x) :
    ∃ (k m : Int) (v : Nat), cs = [.int .i64 k, .int .i64 m, .int .u64 (v : Int)] ∧ v < 18446744073709551616 := by
  obtain ⟨xs, n', -, -, hl, hx, hf⟩ := DataW.trod_struct Try.underlying31 h
  have hx3 : xs.length = 3 := hx
  have hl3 : cs.length = 3 := hl.trans (by kernel_rfl)
  match cs, hl3, xs, hx3 with
  | [c0, c1, c2], _, [y0, y1, y2], _ =>
    have e0 : Try.prog.cellsOf 3 = 1 := by kernel_rfl
    have e1 : Try.prog.cellsOf 29 = 1 := by kernel_rfl
    have g0 : DataW.trod enc Try.prog w base spare held n' 3 (([c0, c1, c2].drop 0).take (Try.prog.cellsOf 3)) = some y0 := hf 0 _ rfl
    have g1 : DataW.trod enc Try.prog w base spare held n' 3 (([c0, c1, c2].drop 1).take (Try.prog.cellsOf 3)) = some y1 := hf 1 _ rfl
    have g2 : DataW.trod enc Try.prog w base spare held n' 29 (([c0, c1, c2].drop 2).take (Try.prog.cellsOf 29)) = some y2 := hf 2 _ rfl
    rw [e0] at g0 g1
    rw [e1] at g2
    obtain ⟨k, h0, -, -⟩ := DataW.trod_int Try.underlying3 g0
    obtain ⟨m, h1, -, -⟩ := DataW.trod_int Try.underlying3 g1
    obtain ⟨v, h2, -, hv⟩ := DataW.trod_int Try.underlying29 g2
    obtain ⟨v', rfl, hlt⟩ := u64_nat hv
    simp at h0 h1 h2
    exact ⟨k, m, v', by rw [h0, h1, h2], hlt⟩

theorem open_acts {n : Nat} {v : Value} {d : DataW H} {ps : List MemPlace} (h : DataW.trod enc Try.prog w base spare held n 22 [v] = some (d, ps)) :
    ∃ (A : Option Addr) (len cap : Nat) (acts : List (Int × Int × Nat)), v = .slice A len cap ∧ Acts w A len acts ∧ len ≤ maxLen := by
  rcases open_slice Try.underlying22 h with ⟨h0, -⟩ | ⟨a, len, cap, m, n', D, Pl, h0, -, hc, hm, hmm, -, hi⟩
  · refine ⟨none, 0, 0, [], by simpa using h0, ⟨rfl, fun i k n v h => by simp at h⟩, by simp⟩
  · have hlm : len ≤ m := by rw [hmm]; split <;> omega
    have e3 : Try.prog.cellsOf 31 = 3 := by kernel_rfl
    have each : ∀ i, i < len → ∃ x : Int × Int × Nat, x.2.2 < 18446744073709551616 ∧ w.cell? (a.add (i * 3)) = some (.int .i64 x.1) ∧ w.cell? ((a.add (i * 3)).add 1) = some (.int .i64 x.2.1) ∧ w.cell? ((a.add (i * 3)).add 2) = some (.int .u64 (x.2.2 : Int)) := by
      intro i hil
      obtain ⟨cs', hcs, ht⟩ := hi i (by omega)
      rw [e3] at hcs
      obtain ⟨-, -, hcell⟩ := World.cells?_some hcs
      obtain ⟨k, m, v, rfl, hv⟩ := open_act ht
      exact ⟨(k, m, v), hv, hcell 0 (by omega), hcell 1 (by omega), hcell 2 (by omega)⟩
    let f : Nat → Int × Int × Nat := fun i => if hil : i < len then Classical.choose (each i hil) else (0, 0, 0)
    have hf : ∀ i, i < len → (f i).2.2 < 18446744073709551616 ∧ w.cell? (a.add (i * 3)) = some (.int .i64 (f i).1) ∧ w.cell? ((a.add (i * 3)).add 1) = some (.int .i64 (f i).2.1) ∧ w.cell? ((a.add (i * 3)).add 2) = some (.int .u64 ((f i).2.2 : Int)) := by
      intro i hil
      simp only [f, dif_pos hil]
      exact Classical.choose_spec (each i hil)
    refine ⟨some a, len, cap, (List.range len).map f, by simpa using h0, ⟨by simp, fun i k n v hx => ?_⟩, by omega⟩
    have hil : i < len := by
      have := (List.getElem?_eq_some_iff.1 hx).1
      simpa using this
    have hfi : f i = (k, n, v) := by
      rw [List.getElem?_map, List.getElem?_range hil] at hx
      simpa using hx
    obtain ⟨g0, g1, g2, g3⟩ := hf i hil
    rw [hfi] at g0 g1 g2 g3
    obtain ⟨-, p1, -, -⟩ := hf 0 (by omega)
    simp only [Nat.zero_mul, Addr.add, if_pos] at p1
    have ha := plain_of_cell p1
    rw [ha] at g1 g2 g3 ⊢
    rw [add_plain] at g1 g2 g3
    rw [add_plain] at g2 g3
    exact ⟨g0, _, _, rfl, g1, g2, g3⟩

theorem u8_cell {x : Int} (h : (Lit.int .u8 x).wf = true) : ∃ b : UInt8, Value.int .u8 x = B8 b := by
  simp [Lit.wf, IntKind.min, IntKind.max, IntKind.signed, IntKind.bits] at h
  refine ⟨UInt8.ofNat x.toNat, ?_⟩
  simp only [B8, UInt8.toNat_ofNat', Value.int.injEq, true_and]
  rw [Nat.mod_eq_of_lt (by omega)]
  omega

/-- An argument that is a list of bytes. -/
theorem open_bytes {n : Nat} {v : Value} {d : DataW H} {ps : List MemPlace} (h : DataW.trod enc Try.prog w base spare held n 26 [v] = some (d, ps)) :
    ∃ (A : Option Addr) (len cap : Nat) (bs : List UInt8), v = .slice A len cap ∧ bs.length = len ∧ len ≤ maxLen ∧ Src w (.slice A len cap) (bs.map B8) := by
  rcases open_slice Try.underlying26 h with ⟨h0, -⟩ | ⟨a, len, cap, m, n', D, Pl, h0, -, hc, hm, hmm, -, hi⟩
  · exact ⟨none, 0, 0, [], by simpa using h0, rfl, by simp, .inl ⟨rfl, rfl⟩⟩
  · have hlm : len ≤ m := by rw [hmm]; split <;> omega
    have e1 : Try.prog.cellsOf 5 = 1 := by kernel_rfl
    have each : ∀ i, i < len → ∃ b : UInt8, w.cell? (a.add i) = some (B8 b) := by
      intro i hil
      obtain ⟨cs', hcs, ht⟩ := hi i (by omega)
      rw [e1, Nat.mul_one] at hcs
      obtain ⟨-, -, hcell⟩ := World.cells?_some hcs
      obtain ⟨x, rfl, -, hwf⟩ := DataW.trod_int Try.underlying5 ht
      obtain ⟨b, hb⟩ := u8_cell hwf
      have := hcell 0 (by omega)
      simp only [Addr.add, if_pos, List.getElem?_cons_zero] at this
      exact ⟨b, by rw [← hb]; exact this⟩
    let f : Nat → UInt8 := fun i => if hil : i < len then Classical.choose (each i hil) else 0
    have hf : ∀ i, i < len → w.cell? (a.add i) = some (B8 (f i)) := by
      intro i hil
      simp only [f, dif_pos hil]
      exact Classical.choose_spec (each i hil)
    refine ⟨some a, len, cap, (List.range len).map f, by simpa using h0, by simp, by omega, .inr ⟨a, cap, by simp, by simpa using hc, fun j u hu => ?_⟩⟩
    rw [List.getElem?_map, List.getElem?_map] at hu
    by_cases hj : j < len
    · rw [List.getElem?_range hj] at hu
      simp at hu
      rw [← hu]
      exact hf j hj
    · rw [List.getElem?_eq_none (by simpa using hj)] at hu
      simp at hu
end
end Go.Proofs.Ytgdfjoionaedgaa
