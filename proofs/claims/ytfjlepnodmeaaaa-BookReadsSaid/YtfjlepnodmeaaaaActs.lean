/-
  An argument that is a list of acts, read as cells: kind, width and number of each; no condition.
-/
import Derived.Test.YtfjlepnodmeaaaaLaw
import Derived.Test.YtfjlepnodmeaaaaRows
import Derived.Deep.Slices
import Derived.Deep.Fields
namespace Go.Proofs.Ytfjlepnodmeaaaa
open Go.ChangeShapes Go.WideShapes Go.ChangeAt Go.RowKit Go.Deep

/-- The script's acts as cells: kind, width, number of each. -/
def Acts (w : World) (A : Option Addr) (len : Nat) (acts : List (Int × Int × Nat)) : Prop :=
  acts.length = len ∧ ∀ (i : Nat) (k n : Int) (v : Nat), acts[i]? = some (k, n, v) → v < 18446744073709551616 ∧ ∃ b o, A = some ⟨b, o, none⟩ ∧
    w.cell? ⟨b, o + i * 3, none⟩ = some (.int .i64 k) ∧ w.cell? ⟨b, o + i * 3 + 1, none⟩ = some (.int .i64 n) ∧ w.cell? ⟨b, o + i * 3 + 2, none⟩ = some (.int .u64 (v : Int))

theorem Acts.fr {w w' : World} {A : Option Addr} {len : Nat} {acts : List (Int × Int × Nat)} (h : Acts w A len acts) (hf : Fr [] w w') : Acts w' A len acts := by
  refine ⟨h.1, fun i k n v hi => ?_⟩
  obtain ⟨hv, b, o, rfl, h1, h2, h3⟩ := h.2 i k n v hi
  have f : ∀ (j : Nat) (u : Value), w.cell? ⟨b, j, none⟩ = some u → w'.cell? ⟨b, j, none⟩ = some u := fun j u hu => (hf.cell (World.block_lt_of_cell? w _ hu) (by simp)).trans hu
  exact ⟨hv, b, o, rfl, f _ _ h1, f _ _ h2, f _ _ h3⟩

theorem plain_of_cell {w : World} {a : Addr} {u : Value} (h : w.cell? a = some u) : a = ⟨a.block, a.off, none⟩ := by
  cases he : a.spot with
  | none => cases a; simp at he ⊢; exact he
  | some x =>
    unfold World.cell? at h
    simp only [he, Option.isSome_some, if_true] at h
    split at h <;> cases h

theorem add_plain (b o j : Nat) : (⟨b, o, none⟩ : Addr).add j = ⟨b, o + j, none⟩ := by
  by_cases hj : j = 0
  · subst hj; simp [Addr.add]
  · simp [Addr.add, hj]

theorem u64_nat {x : Int} (h : (Lit.int .u64 x).wf = true) : ∃ v : Nat, x = (v : Int) ∧ v < 18446744073709551616 := by
  simp [Lit.wf, IntKind.min, IntKind.max, IntKind.signed, IntKind.bits] at h
  exact ⟨x.toNat, by omega, by omega⟩

section
variable {H : Type} {enc : TypeId × Value → H} {w : World} {base : Nat} {spare : Nat → Bool} {held : Bool}
theorem u8_cell {x : Int} (h : (Lit.int .u8 x).wf = true) : ∃ b : UInt8, Value.int .u8 x = B8 b := by
  simp [Lit.wf, IntKind.min, IntKind.max, IntKind.signed, IntKind.bits] at h
  refine ⟨UInt8.ofNat x.toNat, ?_⟩
  simp only [B8, UInt8.toNat_ofNat', Value.int.injEq, true_and]
  rw [Nat.mod_eq_of_lt (by omega)]
  omega

/-- An argument that is a list of bytes. -/
theorem open_bytes {n : Nat} {v : Value} {d : DataW H} {ps : List MemPlace} (h : DataW.trod enc Try.prog w base spare held n 37 [v] = some (d, ps)) :
    ∃ (A : Option Addr) (len cap : Nat) (bs : List UInt8), v = .slice A len cap ∧ bs.length = len ∧ len ≤ maxLen ∧ Src w (.slice A len cap) (bs.map B8) := by
  rcases open_slice Try.underlying37 h with ⟨h0, -⟩ | ⟨a, len, cap, m, n', D, Pl, h0, -, hc, hm, hmm, -, hi⟩
  · exact ⟨none, 0, 0, [], by simpa using h0, rfl, by simp, .inl ⟨rfl, rfl⟩⟩
  · have hlm : len ≤ m := by rw [hmm]; split <;> omega
    have e1 : Try.prog.cellsOf 5 = 1 := by kernel_rfl
    have each : ∀ i, i < len → ∃ b : UInt8, w.cell? (a.add i) = some (B8 b) := by
      intro i hil
      obtain ⟨cs', hcs, ht⟩ := hi i (by omega)
      rw [e1, Nat.mul_one] at hcs
      obtain ⟨-, -, hcell⟩ := World.cells?_some hcs
      obtain ⟨x, rfl, -, hwf⟩ := DataW.trod_int Try.underlying5 ht
      obtain ⟨b, hb⟩ := u8_cell hwf
      have := hcell 0 (by omega)
      simp only [Addr.add, if_pos, List.getElem?_cons_zero] at this
      exact ⟨b, by rw [← hb]; exact this⟩
    let f : Nat → UInt8 := fun i => if hil : i < len then Classical.choose (each i hil) else 0
    have hf : ∀ i, i < len → w.cell? (a.add i) = some (B8 (f i)) := by
      intro i hil
      simp only [f, dif_pos hil]
      exact Classical.choose_spec (each i hil)
    refine ⟨some a, len, cap, (List.range len).map f, by simpa using h0, by simp, by omega, .inr ⟨a, cap, by simp, by simpa using hc, fun j u hu => ?_⟩⟩
    rw [List.getElem?_map, List.getElem?_map] at hu
    by_cases hj : j < len
    · rw [List.getElem?_range hj] at hu
      simp at hu
      rw [← hu]
      exact hf j hj
    · rw [List.getElem?_eq_none (by simpa using hj)] at hu
      simp at hu
end
end Go.Proofs.Ytfjlepnodmeaaaa
