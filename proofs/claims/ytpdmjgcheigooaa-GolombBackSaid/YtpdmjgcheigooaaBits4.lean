/-
  Contracts of bits.Open and of (*Reader).At, Left and Rest; conditions: the lengths are bounded as named.
-/
import Derived.Test.YtpdmjgcheigooaaBits3
import Derived.Deep.DeepFit
namespace Go.Proofs.Ytpdmjgcheigooaa
open Go.RowKit

/-- A reader: the bytes bs; it is at bit a. -/
def Rd (w : World) (q : Nat) (v : Value) (bs : List UInt8) (a : Nat) : Prop :=
  Blk w q 70 #[v, .int .i64 (a : Int)] ∧ Own w 5 v (bs.map B8) ∧ a ≤ 8 * bs.length ∧ v.ownBlock ≠ some q

theorem Rd.fr {w w' : World} {p : Nat} {v : Value} {bs : List UInt8} {a : Nat} {S : List Nat} (h : Rd w p v bs a) (hf : Fr S w w') (h1 : p ∉ S) (h2 : ∀ k, v.ownBlock = some k → k ∉ S) : Rd w' p v bs a := by
  obtain ⟨hb, ho, hp, hn⟩ := h
  exact ⟨hb.fr hf h1, ho.fr hf h2, hp, hn⟩
theorem Rd.lt {w : World} {p : Nat} {v : Value} {bs : List UInt8} {a : Nat} (h : Rd w p v bs a) : p < w.heap.size := h.1.lt
theorem Rd.lt2 {w : World} {p : Nat} {v : Value} {bs : List UInt8} {a : Nat} (h : Rd w p v bs a) : ∀ k, v.ownBlock = some k → k < w.heap.size := h.2.1.lt
theorem Rd.slice {w : World} {q : Nat} {v : Value} {bs : List UInt8} {a : Nat} (h : Rd w q v bs a) : ∃ A c, v = .slice A bs.length c := by
  rcases h.2.1.form with ⟨rfl, h0⟩ | ⟨g, cap, cur, rfl, -⟩
  · exact ⟨_, _, by rw [List.map_eq_nil_iff.1 h0]; rfl⟩
  · exact ⟨_, _, by rw [List.length_map]⟩

theorem open_any (src : Value) (bs : List UInt8) (w : World) (hs : Src w src (bs.map B8)) (hn : bs.length ≤ 1000000000000) :
    Calls Try.prog 23 #[src] w fun e w' => ∃ q v, e = .returned (.pointer (some ⟨q, 0, none⟩)) ∧ Rd w' q v bs 0 ∧ Fr [] w w' ∧ w.heap.size ≤ q ∧ (∀ k, v.ownBlock = some k → w.heap.size ≤ k) := by
  have HC := Lib.hid (copied_any src bs w hs hn)
  go_enter Try.func23, Try.ntmps23
  go_wp2_with fail
  refine HC.out.mono ?_
  rintro e w' ⟨c, rfl, h1, h2⟩
  have hlt := h1.lt _ rfl
  have H1 := Lib.hid h1; clear h1
  go_wp2_with fail
  go_ret
  refine ⟨_, _, rfl, ⟨Blk.new _ _ _, H1.out.alloc _, by omega, ?_⟩, h2.alloc _, h2.size, ?_⟩
  · simp [Value.ownBlock]; omega
  · intro k hk; simp [Value.ownBlock] at hk; omega

theorem at_any (w : World) (q : Nat) (v : Value) (bs : List UInt8) (a : Nat) (h : Rd w q v bs a) :
    Calls Try.prog 29 #[.pointer (some ⟨q, 0, none⟩)] w fun e w' => e = .returned (.int .i64 (a : Int)) ∧ w' = w := by
  obtain ⟨hb, -, -, -⟩ := h
  have h1 := hb.cell 1
  have hz := hb.lt
  clear hb
  simp at h1
  go_enter Try.func29, Try.ntmps29
  go_wp2
  go_ret
  exact ⟨rfl, rfl⟩

theorem at_nil (w : World) :
    Calls Try.prog 29 #[.pointer none] w fun e w' => e = .returned (.int .i64 0) ∧ w' = w := by
  go_enter Try.func29, Try.ntmps29
  go_wp2
  go_ret
  exact ⟨rfl, rfl⟩

theorem left_any (w : World) (q : Nat) (v : Value) (bs : List UInt8) (a : Nat) (h : Rd w q v bs a) (hn : bs.length ≤ 1000000000000) :
    Calls Try.prog 40 #[.pointer (some ⟨q, 0, none⟩)] w fun e w' => e = .returned (.int .i64 ((8 * bs.length - a : Nat) : Int)) ∧ w' = w.drew := by
  obtain ⟨A, c, rfl⟩ := h.slice
  obtain ⟨hb, -, ha, -⟩ := h
  have h0 := hb.cell 0
  have h1 := hb.cell 1
  have hz := hb.lt
  clear hb
  simp at h0 h1
  have e1 : IntKind.i64.wrap ((bs.length : Int) * 8) = (bs.length : Int) * 8 := IntWalk.i64_in _ (by omega)
  have e2 : IntKind.i64.wrap ((bs.length : Int) * 8 - (a : Int)) = (bs.length : Int) * 8 - (a : Int) := IntWalk.i64_in _ (by omega)
  go_enter Try.func40, Try.ntmps40
  go_wp2_with fail
  go_still (by kernel_rfl)
  change Exit.then _ _ _ _ w.drew
  go_wp2_with fail
  go_ret
  refine ⟨?_, rfl⟩
  show Ending.returned (.int .i64 ((bs.length : Int) * 8 - (a : Int))) = _
  congr 2; omega

theorem left_nil (w : World) :
    Calls Try.prog 40 #[.pointer none] w fun e w' => e = .returned (.int .i64 0) ∧ w' = w := by
  go_enter Try.func40, Try.ntmps40
  go_wp2
  go_ret
  exact ⟨rfl, rfl⟩

end Go.Proofs.Ytpdmjgcheigooaa
