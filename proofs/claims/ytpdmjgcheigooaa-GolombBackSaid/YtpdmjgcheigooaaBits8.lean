/-
  The calls of layer 1 whatever their arguments: what is put and what is got, as functions of bits; conditions: the lengths are bounded as named.
-/
import Derived.Test.YtpdmjgcheigooaaBits7
namespace Go.Proofs.Ytpdmjgcheigooaa
open Go.RowKit

/-- What a put answers, and the bits behind it. -/
def wput (L : List Bool) (a : Nat) (b : Int) : Int × List Bool := if b < 0 ∨ 64 < b ∨ 2 ^ b.toNat ≤ a then (1, L) else (0, L ++ digits a b.toNat)
/-- What a get answers, the error, and where the reader is behind it. -/
def rgot (l : List Bool) (i : Nat) (b : Int) : Nat × Int × Nat := if b < 0 ∨ 64 < b then (0, 1, i) else if l.length < i + b.toNat then (0, 11, i) else (number ((l.drop i).take b.toNat), 0, i + b.toNat)
/-- What a reader's align answers, and where the reader is behind it. -/
def ralg (l : List Bool) (i : Nat) : Int × Nat := if number ((l.drop i).take ((8 - i % 8) % 8)) = 0 then (0, i + (8 - i % 8) % 8) else (11, i)
/-- The bits behind a writer's align. -/
def walg (L : List Bool) : List Bool := L ++ List.replicate ((8 - L.length % 8) % 8) false

theorem WFr.same {p : Nat} {v : Value} {w w' : World} (h : Fr [] w w') : WFr p v v w w' := ⟨h.mono (by simp), .inl rfl⟩

theorem put_total (p : Nat) (v : Value) (L : List Bool) (a : Nat) (b : Int) (w : World) (h : Wr w p v L) (ha : a < 18446744073709551616) (hL : L.length ≤ 100000000000) :
    Calls Try.prog 34 #[.pointer (some ⟨p, 0, none⟩), .int .u64 (a : Int), .int .i64 b] w fun e w' => e = .returned (.int .i64 (wput L a b).1) ∧ ∃ v', Wr w' p v' (wput L a b).2 ∧ WFr p v v' w w' := by
  unfold wput
  by_cases h1 : b < 0 ∨ 64 < b
  · rw [if_pos (by omega)]
    exact (put_width p v L a b w h h1).mono fun e w' ⟨he, hw⟩ => ⟨he, v, by rw [hw]; exact h, by rw [hw]; exact WFr.same (Fr.refl _ _)⟩
  · obtain ⟨n, rfl⟩ := Int.eq_ofNat_of_zero_le (show 0 ≤ b by omega)
    by_cases h2 : 2 ^ n ≤ a
    · rw [if_pos (.inr (.inr h2))]
      exact (put_wide p v L a n w h (by omega) h2).mono fun e w' ⟨he, hw⟩ => ⟨he, v, by rw [hw]; exact h, by rw [hw]; exact WFr.same (Fr.refl _ _)⟩
    · rw [if_neg (by simp only [Int.toNat_natCast]; omega)]
      exact put_ok p v L a n w h (by omega) (by omega) hL

theorem get_total (q : Nat) (v : Value) (bs : List UInt8) (a : Nat) (b : Int) (w : World) (h : Rd w q v bs a) (hl : bs.length ≤ 1000000000000) :
    Calls Try.prog 30 #[.pointer (some ⟨q, 0, none⟩), .int .i64 b] w fun e w' =>
      e = .returned (.tuple #[.int .u64 ((rgot (rowOf bs) a b).1 : Int), .int .i64 (rgot (rowOf bs) a b).2.1]) ∧ Rd w' q v bs (rgot (rowOf bs) a b).2.2 ∧ Fr [q] w w' := by
  unfold rgot
  by_cases h1 : b < 0 ∨ 64 < b
  · rw [if_pos h1]
    exact (get_width q v bs a b w h h1).mono fun e w' ⟨he, hw⟩ => ⟨he, by rw [hw]; exact h, by rw [hw]; exact Fr.refl _ _⟩
  · rw [if_neg h1]
    obtain ⟨n, rfl⟩ := Int.eq_ofNat_of_zero_le (show 0 ≤ b by omega)
    rw [Int.toNat_natCast]
    by_cases h2 : (rowOf bs).length < a + n
    · rw [if_pos h2]
      rw [rowOf_length] at h2
      exact (get_short q v bs a n w h hl (by omega) h2).mono fun e w' ⟨he, hw⟩ => ⟨he, by rw [hw]; exact h.fr (S := []) (Fr.refl _ _).drew (by simp) (by simp), by rw [hw]; exact (Fr.refl _ _).drew⟩
    · rw [if_neg h2]
      rw [rowOf_length] at h2
      exact get_ok q v bs a n w h hl (by omega) (by omega)

theorem wput_len (L : List Bool) (a : Nat) (b : Int) : (wput L a b).2.length ≤ L.length + 64 := by
  unfold wput
  split
  · simp
  · simp; omega
theorem walg_len (L : List Bool) : (walg L).length ≤ L.length + 64 := by unfold walg; simp; omega
theorem rgot_le (l : List Bool) (i : Nat) (b : Int) (h : i ≤ l.length) : (rgot l i b).2.2 ≤ l.length := by
  unfold rgot
  split
  · exact h
  · split
    · exact h
    · simp; omega

/-- Two writers lie apart. -/
def Sep (p : Nat) (v : Value) (q : Nat) (u : Value) : Prop := p ≠ q ∧ u.ownBlock ≠ some p ∧ v.ownBlock ≠ some q ∧ ∀ k, v.ownBlock = some k → u.ownBlock ≠ some k
theorem Sep.symm {p q : Nat} {v u : Value} (h : Sep p v q u) : Sep q u p v := ⟨h.1.symm, h.2.2.1, h.2.1, fun k hk e => h.2.2.2 k e hk⟩
theorem Sep.step {p q : Nat} {v v' u : Value} {w w' : World} (h : Sep p v q u) (hw : WFr p v v' w w') (hq : q < w.heap.size) (hu : ∀ k, u.ownBlock = some k → k < w.heap.size) : Sep p v' q u := by
  rcases hw.2 with e | ⟨g, e, hg⟩
  · exact ⟨h.1, h.2.1, by rw [e]; exact h.2.2.1, fun k hk => h.2.2.2 k (by rw [← e]; exact hk)⟩
  · refine ⟨h.1, h.2.1, by rw [e]; intro h; injection h; omega, fun k hk hk2 => ?_⟩
    rw [e] at hk; injection hk with hk; subst hk
    have := hu _ hk2; omega
theorem Sep.out {p q : Nat} {v u : Value} (h : Sep p v q u) : q ∉ p :: v.ownBlock.toList ∧ ∀ k, u.ownBlock = some k → k ∉ p :: v.ownBlock.toList := by
  refine ⟨?_, fun k hk hm => ?_⟩
  · simp only [List.mem_cons, Option.mem_toList, not_or]
    exact ⟨h.1.symm, h.2.2.1⟩
  · rcases List.mem_cons.1 hm with rfl | hm
    · exact h.2.1 hk
    · exact h.2.2.2 k (by simpa using hm) hk

theorem bytes_row (w : World) (p : Nat) (v : Value) (L : List Bool) (h : Wr w p v L) (hL : L.length ≤ 1000000000000) :
    Calls Try.prog 21 #[.pointer (some ⟨p, 0, none⟩)] w fun e w' => ∃ bs, PackOf bs L ∧ NewRow w bs e w' :=
  (bytes_any w p v L h hL).mono fun _ _ ⟨bs, h1, h2⟩ => ⟨bs, h1, h2.row⟩
theorem PackOf.whole {bs : List UInt8} {l : List Bool} (h : PackOf bs l) (h8 : l.length % 8 = 0) : rowOf bs = l := by
  apply ext_getD
  · rw [rowOf_length, h.1]; omega
  · intro j; rw [rowOf_getD, h.2]
end Go.Proofs.Ytpdmjgcheigooaa
