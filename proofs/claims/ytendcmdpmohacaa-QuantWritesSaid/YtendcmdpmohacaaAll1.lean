/-
  What several laws' proofs lean on, part 1; each part says its conditions below.
-/
import Derived.Test.YtendcmdpmohacaaRows
import Derived.WalkKit
import Derived.Handy
import Derived.Lib.Hide
import Derived.Deep.Draws
import Derived.Laws.CopyOwn
import Derived.StillTailTactics
import Derived.Deep.QuietTactic
import Derived.BigQuiet
import Derived.Deep.DeepCutAuto
import Derived.ProofKit
import Derived.Deep.Slices
import Derived.Deep.Fields
import Derived.Deep.RegionHeld3
import Derived.Laws.BitsAllLaws
import Derived.Laws.StructEq
import Derived.Deep.WholeRow
/-
  Plain facts on bits, bytes and how bits are packed into bytes. No program text here.
-/
namespace Go.Proofs.Ytendcmdpmohacaa

/-- The lowest n bits of v, the highest one first. -/
def digits (v : Nat) : Nat → List Bool
  | 0 => []
  | n + 1 => v.testBit n :: digits v n

def number (l : List Bool) : Nat := l.foldl (fun a b => 2 * a + b.toNat) 0

/-- Bit j of bytes, counted from the first byte's highest one on. -/
def bitAt (bs : List UInt8) (j : Nat) : Bool := (bs.getD (j / 8) 0).toNat.testBit (7 - j % 8)

/-- bs are the bits l, filled up with 0 to whole bytes. -/
def PackOf (bs : List UInt8) (l : List Bool) : Prop := bs.length = (l.length + 7) / 8 ∧ ∀ j, bitAt bs j = l.getD j false

@[simp] theorem digits_length (v n : Nat) : (digits v n).length = n := by
  induction n with
  | zero => rfl
  | succ n ih => simp [digits, ih]

theorem digits_getD (v : Nat) : ∀ n j, (digits v n).getD j false = (decide (j < n) && v.testBit (n - 1 - j))
  | 0, j => by simp [digits]
  | n + 1, 0 => by simp [digits]
  | n + 1, j + 1 => by
    have := digits_getD v n j
    simp only [digits, List.getD_cons_succ, this]
    have h : n - 1 - j = n + 1 - 1 - (j + 1) := by omega
    rw [h]; simp

theorem ext_getD {l m : List Bool} (hl : l.length = m.length) (h : ∀ j, l.getD j false = m.getD j false) : l = m := by
  apply List.ext_getElem hl
  intro i h1 h2
  have := h i
  simpa [List.getD_eq_getElem?_getD, h1, h2] using this

theorem getD_append' (l m : List Bool) (j : Nat) : (l ++ m).getD j false = if j < l.length then l.getD j false else m.getD (j - l.length) false := by
  simp only [List.getD_eq_getElem?_getD, List.getElem?_append]
  split <;> rfl

theorem digits_add (v n k : Nat) : digits v (n + k) = digits (v >>> n) k ++ digits v n := by
  apply ext_getD (by simp; omega)
  intro j
  rw [getD_append', digits_length, digits_getD, digits_getD, digits_getD]
  by_cases h : j < k
  · simp only [h, if_true, Nat.testBit_shiftRight]
    rw [show n + (k - 1 - j) = n + k - 1 - j by omega]
    simp [show j < n + k by omega]
  · simp only [h, if_false]
    rw [show n - 1 - (j - k) = n + k - 1 - j by omega]
    congr 1
    apply decide_eq_decide.2; omega

theorem digits_more (a n m k : Nat) (h : m + k ≤ n) : digits (a >>> m) (n - m) = digits (a >>> (m + k)) (n - (m + k)) ++ digits (a >>> m) k := by
  rw [show n - m = k + (n - (m + k)) by omega, digits_add, Nat.shiftRight_add]

theorem number_append (l : List Bool) (b : Bool) : number (l ++ [b]) = 2 * number l + b.toNat := by
  simp [number]

theorem foldl_number (l : List Bool) : ∀ a, l.foldl (fun a b => 2 * a + b.toNat) a = a * 2 ^ l.length + number l := by
  induction l with
  | nil => intro a; simp [number]
  | cons b l ih =>
    intro a
    simp only [List.foldl_cons, number, List.length_cons]
    rw [ih, ih (2 * 0 + b.toNat), Nat.pow_succ]
    simp only [Nat.add_mul, Nat.mul_zero, Nat.zero_add]
    rw [show 2 * a * 2 ^ l.length = a * (2 ^ l.length * 2) by rw [Nat.mul_comm 2 a, Nat.mul_assoc, Nat.mul_comm 2]]
    omega

theorem number_cons (b : Bool) (l : List Bool) : number (b :: l) = b.toNat * 2 ^ l.length + number l := by
  have := foldl_number l b.toNat
  simpa [number] using this

theorem number_lt (l : List Bool) : number l < 2 ^ l.length := by
  induction l with
  | nil => simp [number]
  | cons b l ih =>
    rw [number_cons, List.length_cons, Nat.pow_succ]
    cases b <;> simp <;> omega

theorem number_digits (v n : Nat) : number (digits v n) = v % 2 ^ n := by
  induction n with
  | zero => simp [digits, number, Nat.mod_one]
  | succ n ih =>
    rw [digits, number_cons, digits_length, ih, Nat.pow_succ, Nat.mod_mul, Nat.testBit_eq_decide_div_mod_eq]
    have : v / 2 ^ n % 2 < 2 := Nat.mod_lt _ (by omega)
    rcases (show v / 2 ^ n % 2 = 0 ∨ v / 2 ^ n % 2 = 1 by omega) with h | h <;> simp [h] <;> omega

theorem number_digits_lt {v n : Nat} (h : v < 2 ^ n) : number (digits v n) = v := by
  rw [number_digits, Nat.mod_eq_of_lt h]

theorem digits_number (l : List Bool) : digits (number l) l.length = l := by
  induction l with
  | nil => rfl
  | cons b l ih =>
    rw [List.length_cons, digits]
    have h1 := number_lt l
    congr 1
    · rw [number_cons, Nat.testBit_eq_decide_div_mod_eq, Nat.mul_comm, Nat.mul_add_div (by omega), Nat.div_eq_of_lt h1]
      cases b <;> simp
    · refine Eq.trans ?_ ih
      apply ext_getD (by simp)
      intro j
      rw [digits_getD, digits_getD, number_cons]
      by_cases hj : j < l.length
      · congr 1
        rw [Nat.mul_comm, Nat.testBit_two_pow_mul_add _ h1]
        simp [show l.length - 1 - j < l.length by omega]
      · simp [hj]

theorem number_shift (l : List Bool) (v n : Nat) : number (l ++ digits v n) = number l * 2 ^ n + v % 2 ^ n := by
  rw [← number_digits]
  have := foldl_number (digits v n) (number l)
  simpa [number, List.foldl_append] using this

theorem number_app (l m : List Bool) : number (l ++ m) = number l * 2 ^ m.length + number m := by
  have := foldl_number m (number l)
  simpa [number, List.foldl_append] using this

theorem PackOf.nil : PackOf [] [] := ⟨rfl, fun j => by simp [bitAt]⟩

theorem u8_ext {a b : UInt8} (h : ∀ p, p < 8 → a.toNat.testBit p = b.toNat.testBit p) : a = b := by
  apply UInt8.toNat_inj.1
  apply Nat.eq_of_testBit_eq
  intro i
  by_cases hi : i < 8
  · exact h i hi
  · have h1 : a.toNat < 2 ^ i := Nat.lt_of_lt_of_le (UInt8.toNat_lt a) (Nat.pow_le_pow_right (by omega) (by omega) : 2 ^ 8 ≤ 2 ^ i)
    have h2 : b.toNat < 2 ^ i := Nat.lt_of_lt_of_le (UInt8.toNat_lt b) (Nat.pow_le_pow_right (by omega) (by omega) : 2 ^ 8 ≤ 2 ^ i)
    rw [Nat.testBit_lt_two_pow h1, Nat.testBit_lt_two_pow h2]

theorem bits_ext {a b : List UInt8} (hl : a.length = b.length) (h : ∀ j, bitAt a j = bitAt b j) : a = b := by
  apply List.ext_getElem hl
  intro i h1 h2
  apply u8_ext
  intro p hp
  have := h (8 * i + (7 - p))
  simp only [bitAt] at this
  rw [show (8 * i + (7 - p)) / 8 = i by omega, show 7 - (8 * i + (7 - p)) % 8 = p by omega] at this
  simpa [List.getD_eq_getElem?_getD, h1, h2] using this

theorem PackOf.unique {a b : List UInt8} {l : List Bool} (ha : PackOf a l) (hb : PackOf b l) : a = b :=
  bits_ext (ha.1.trans hb.1.symm) fun j => (ha.2 j).trans (hb.2 j).symm

theorem bitAt_set (bs : List UInt8) (i : Nat) (x : UInt8) (j : Nat) (hi : i < bs.length) :
    bitAt (bs.set i x) j = if j / 8 = i then x.toNat.testBit (7 - j % 8) else bitAt bs j := by
  simp only [bitAt, List.getD_eq_getElem?_getD, List.getElem?_set]
  by_cases h : j / 8 = i
  · simp [h, hi]
  · simp [h, Ne.symm h]

theorem bitAt_push0 (bs : List UInt8) (j : Nat) : bitAt (bs ++ [0]) j = bitAt bs j := by
  simp only [bitAt, List.getD_eq_getElem?_getD, List.getElem?_append]
  split
  · rfl
  · rename_i h
    rw [List.getElem?_eq_none (l := bs) (by omega)]
    rcases (show j / 8 - bs.length = 0 ∨ 0 < j / 8 - bs.length by omega) with h0 | h0
    · simp [h0]
    · rw [List.getElem?_eq_none (by simp only [List.length_singleton]; omega)]

/-- One round of Put: the last byte takes k bits more. -/
theorem PackOf.round {bs : List UInt8} {l : List Bool} (h : ∀ j, bitAt bs j = l.getD j false) (u k i : Nat) (x : UInt8) (hi : i = l.length / 8) (hib : i < bs.length) (hk : k ≤ 8 - l.length % 8)
    (hx : x.toNat = (bs.getD i 0).toNat ||| ((u % 2 ^ k) <<< (8 - l.length % 8 - k))) (hlen : bs.length = (l.length + k + 7) / 8) :
    PackOf (bs.set i x) (l ++ digits u k) := by
  refine ⟨by simp [hlen], fun j => ?_⟩
  rw [bitAt_set bs i x j hib, getD_append', digits_getD]
  have hj := h j
  by_cases hd : j / 8 = i
  · rw [if_pos hd, hx, Nat.testBit_or, Nat.testBit_shiftLeft, Nat.testBit_mod_two_pow]
    have hb : (bs.getD i 0).toNat.testBit (7 - j % 8) = bitAt bs j := by simp [bitAt, hd]
    rw [hb, hj]
    by_cases hc : j < l.length
    · rw [if_pos hc]
      have : ¬ (7 - j % 8 - (8 - l.length % 8 - k) < k) := by omega
      simp [this]
    · rw [if_neg hc]
      have h0 : l.getD j false = false := by simp [List.getD_eq_getElem?_getD, List.getElem?_eq_none (by omega : l.length ≤ j)]
      rw [h0, Bool.false_or]
      by_cases hjk : j - l.length < k
      · have a1 : 7 - j % 8 ≥ 8 - l.length % 8 - k := by omega
        have a2 : 7 - j % 8 - (8 - l.length % 8 - k) < k := by omega
        have a3 : 7 - j % 8 - (8 - l.length % 8 - k) = k - 1 - (j - l.length) := by omega
        rw [a3] at a2 ⊢
        simp [a1, a2, hjk]
      · have a1 : ¬ (7 - j % 8 ≥ 8 - l.length % 8 - k) ∨ l.length % 8 + k = 8 ∧ False := by left; omega
        rcases a1 with a1 | ⟨_, a1⟩
        · simp [hjk]
          intro h; omega
        · exact a1.elim
  · rw [if_neg hd, hj]
    by_cases hc : j < l.length
    · rw [if_pos hc]
    · rw [if_neg hc]
      have h0 : l.getD j false = false := by simp [List.getD_eq_getElem?_getD, List.getElem?_eq_none (by omega : l.length ≤ j)]
      rw [h0]
      have : ¬ j - l.length < k := by omega
      simp [this]

theorem PackOf.push0 {bs : List UInt8} {l : List Bool} (h : PackOf bs l) (j : Nat) : bitAt (bs ++ [0]) j = l.getD j false := by
  rw [bitAt_push0, h.2]

/-- Align: the bits 0 more. -/
theorem PackOf.align {bs : List UInt8} {l : List Bool} (h : PackOf bs l) : PackOf bs (l ++ List.replicate ((8 - l.length % 8) % 8) false) := by
  refine ⟨by rw [h.1]; simp; omega, fun j => ?_⟩
  rw [h.2, getD_append']
  split
  · rfl
  · rename_i hc
    have h0 : l.getD j false = false := by simp [List.getD_eq_getElem?_getD, List.getElem?_eq_none (by omega : l.length ≤ j)]
    rw [h0]
    simp only [List.getD_eq_getElem?_getD, List.getElem?_replicate]
    split <;> rfl

/-- The bits of bytes. -/
def rowOf : List UInt8 → List Bool
  | [] => []
  | b :: r => digits b.toNat 8 ++ rowOf r

@[simp] theorem rowOf_length (bs : List UInt8) : (rowOf bs).length = 8 * bs.length := by
  induction bs with
  | nil => rfl
  | cons b r ih => simp [rowOf, ih]; omega

theorem rowOf_append (a b : List UInt8) : rowOf (a ++ b) = rowOf a ++ rowOf b := by
  induction a with
  | nil => rfl
  | cons x r ih => simp [rowOf, ih]

theorem rowOf_getD (bs : List UInt8) (j : Nat) : (rowOf bs).getD j false = bitAt bs j := by
  induction bs generalizing j with
  | nil => simp [rowOf, bitAt]
  | cons b r ih =>
    rw [rowOf, getD_append', digits_length, digits_getD]
    by_cases h : j < 8
    · rw [if_pos h]
      simp [bitAt, h, show j / 8 = 0 by omega, show j % 8 = j by omega]
    · rw [if_neg h, ih]
      simp only [bitAt]
      rw [show j / 8 = (j - 8) / 8 + 1 by omega, show j % 8 = (j - 8) % 8 by omega, List.getD_cons_succ]

theorem PackOf.row (bs : List UInt8) : PackOf bs (rowOf bs) := ⟨by simp; omega, fun j => (rowOf_getD bs j).symm⟩

theorem PackOf.drop {bs : List UInt8} {l : List Bool} (h : PackOf bs l) (k : Nat) : PackOf (bs.drop k) (l.drop (8 * k)) := by
  refine ⟨by simp [h.1]; omega, fun j => ?_⟩
  have := h.2 (8 * k + j)
  simp only [bitAt, List.getD_eq_getElem?_getD, List.getElem?_drop] at this ⊢
  rw [← this, show (8 * k + j) / 8 = k + j / 8 by omega, show (8 * k + j) % 8 = j % 8 by omega]

/-- The first byte of packed bits. -/
theorem PackOf.cons {bs : List UInt8} {l : List Bool} (x : UInt8) (hl : l ≠ []) (h : PackOf bs (l.drop 8)) (hx : ∀ p, p < 8 → x.toNat.testBit (7 - p) = l.getD p false) : PackOf (x :: bs) l := by
  have : 0 < l.length := List.length_pos_iff.2 hl
  refine ⟨by simp [h.1]; omega, fun j => ?_⟩
  by_cases hj : j < 8
  · rw [bitAt, show j / 8 = 0 by omega, show j % 8 = j by omega]
    exact hx j hj
  · have := h.2 (j - 8)
    simp only [bitAt, List.getD_eq_getElem?_getD, List.getElem?_drop] at this ⊢
    rw [show j / 8 = (j - 8) / 8 + 1 by omega, show j % 8 = (j - 8) % 8 by omega, List.getElem?_cons_succ, this, show 8 + (j - 8) = j by omega]


theorem number_row (bs : List UInt8) (at_ k : Nat) (hb : at_ / 8 < bs.length) (hk : k ≤ 8 - at_ % 8) :
    ((rowOf bs).drop at_).take k = digits ((bs.getD (at_ / 8) 0).toNat >>> (8 - at_ % 8 - k)) k := by
  have hl : (((rowOf bs).drop at_).take k).length = k := by simp; omega
  apply ext_getD (by simp [hl])
  intro j
  rw [digits_getD]
  by_cases hj : j < k
  · have h1 := rowOf_getD bs (at_ + j)
    simp only [List.getD_eq_getElem?_getD, List.getElem?_take, List.getElem?_drop, if_pos hj] at h1 ⊢
    rw [h1, bitAt, Nat.testBit_shiftRight, show (at_ + j) / 8 = at_ / 8 by omega, show 7 - (at_ + j) % 8 = 8 - at_ % 8 - k + (k - 1 - j) by omega]
    simp [hj, List.getD_eq_getElem?_getD]
  · rw [List.getD_eq_getElem?_getD, List.getElem?_eq_none (by omega)]
    simp [hj]

theorem take_add' {α : Type} (l : List α) (a k : Nat) : l.take (a + k) = l.take a ++ (l.drop a).take k := by
  rw [List.take_add]

theorem number_zero_iff (l : List Bool) : number l = 0 ↔ ∀ b ∈ l, b = false := by
  induction l with
  | nil => simp [number]
  | cons b l ih =>
    rw [number_cons]
    cases b with
    | false => simp [ih]
    | true => simp

theorem testBit_number (l : List Bool) (j : Nat) (hj : j < l.length) : (number l).testBit (l.length - 1 - j) = l.getD j false := by
  conv => rhs; rw [← digits_number l]
  rw [digits_getD]
  simp [hj]

/-- The t-th eight bits, filled up. -/
def eight (l : List Bool) (t : Nat) : List Bool := (List.range 8).map fun k => l.getD (8 * t + k) false

@[simp] theorem eight_length (l : List Bool) (t : Nat) : (eight l t).length = 8 := by simp [eight]

theorem eight_getD (l : List Bool) (t k : Nat) (hk : k < 8) : (eight l t).getD k false = l.getD (8 * t + k) false := by
  simp [eight, List.getD_eq_getElem?_getD, hk]

theorem eight_lt (l : List Bool) (t : Nat) : number (eight l t) < 256 := by
  have := number_lt (eight l t)
  simpa using this

theorem bitAt_push (bs : List UInt8) (l : List Bool) (h : ∀ j, j < 8 * bs.length → bitAt bs j = l.getD j false) (j : Nat) (hj : j < 8 * (bs.length + 1)) :
    bitAt (bs ++ [UInt8.ofNat (number (eight l bs.length))]) j = l.getD j false := by
  by_cases h8 : j < 8 * bs.length
  · rw [← h j h8]
    simp only [bitAt, List.getD_eq_getElem?_getD, List.getElem?_append]
    rw [if_pos (by omega)]
  · have e : j / 8 = bs.length := by omega
    have hx : (UInt8.ofNat (number (eight l bs.length))).toNat = number (eight l bs.length) := by
      simp only [UInt8.toNat_ofNat']; exact Nat.mod_eq_of_lt (eight_lt l _)
    simp only [bitAt, List.getD_eq_getElem?_getD, List.getElem?_append, e, Nat.lt_irrefl, if_false, Nat.sub_self, List.getElem?_cons_zero, Option.getD_some]
    rw [hx]
    have := testBit_number (eight l bs.length) (j % 8) (by simp; omega)
    rw [eight_length, show 8 - 1 - j % 8 = 7 - j % 8 by omega, eight_getD l _ _ (by omega), show 8 * bs.length + j % 8 = j by omega] at this
    rw [this, List.getD_eq_getElem?_getD]

theorem PackOf.of_eight {bs : List UInt8} {l : List Bool} (hl : bs.length = (l.length + 7) / 8) (h : ∀ j, j < 8 * bs.length → bitAt bs j = l.getD j false) : PackOf bs l := by
  refine ⟨hl, fun j => ?_⟩
  by_cases hj : j < 8 * bs.length
  · exact h j hj
  · rw [bitAt, List.getD_eq_getElem?_getD, List.getElem?_eq_none (by omega), List.getD_eq_getElem?_getD, List.getElem?_eq_none (by omega)]
    simp

theorem number_take_succ (l : List Bool) (k : Nat) (h : k < l.length) : number (l.take (k + 1)) = 2 * number (l.take k) + (l.getD k false).toNat := by
  rw [List.take_add_one, List.getElem?_eq_getElem h, List.getD_eq_getElem?_getD, List.getElem?_eq_getElem h]
  exact number_append _ _
end Go.Proofs.Ytendcmdpmohacaa

/-
  Plain facts on the coder of chances: the code as a number, the rest, there and back, one code. No program text here.
-/
namespace Go.Proofs.Ytendcmdpmohacaa

/-- Is it a chance? The chance behind a bit. -/
def rightC (c : Nat) : Prop := 31 ≤ c ∧ c ≤ 2017
instance (c : Nat) : Decidable (rightC c) := inferInstanceAs (Decidable (_ ∧ _))
def clampC (c : Nat) : Nat := min (max c 31) 2017
def nextC (c : Nat) (bit : Bool) : Nat := if bit then clampC c - clampC c / 32 else clampC c + (2048 - clampC c) / 32

theorem clampC_right (c : Nat) : rightC (clampC c) := by unfold clampC rightC; omega
theorem clampC_same {c : Nat} (h : rightC c) : clampC c = c := by unfold clampC rightC at *; omega
theorem nextC_right (c : Nat) (bit : Bool) : rightC (nextC c bit) := by
  have := clampC_right c
  unfold nextC
  generalize clampC c = d at this
  unfold rightC at *
  cases bit
  · simp only [Bool.false_eq_true, if_false]; omega
  · simp only [if_true]; omega

/-- The code's number, how many bytes it has, the range. -/
structure Enc where
  v : Nat
  n : Nat
  r : Nat
def encNew : Enc := ⟨0, 4, 4294967295⟩
def bnd (r c : Nat) : Nat := r / 2048 * c
def encBit (e : Enc) (c : Nat) (bit : Bool) : Enc := if bit then ⟨e.v + bnd e.r c, e.n, e.r - bnd e.r c⟩ else ⟨e.v, e.n, bnd e.r c⟩
def encScale (e : Enc) : Enc := if e.r < 16777216 then ⟨e.v * 256, e.n + 1, e.r * 256⟩ else e
def encPut (e : Enc) (c : Nat) (bit : Bool) : Enc := encScale (encBit e c bit)

structure Enc.Ok (e : Enc) : Prop where
  lo : 16777216 ≤ e.r
  hi : e.r ≤ 4294967295
  fit : e.v + e.r ≤ 256 ^ e.n
theorem encNew_ok : encNew.Ok := ⟨by decide, by decide, by decide⟩

theorem bnd_lo {r c : Nat} (h : 16777216 ≤ r) (hc : rightC c) : 253952 ≤ bnd r c := by
  have h1 : 8192 ≤ r / 2048 := by omega
  have h2 : 8192 * 31 ≤ r / 2048 * c := Nat.mul_le_mul h1 hc.1
  unfold bnd; omega
theorem bnd_hi {r c : Nat} (h : 16777216 ≤ r) (hc : rightC c) : bnd r c + 253952 ≤ r := by
  have h1 : 8192 ≤ r / 2048 := by omega
  have h2 : r / 2048 * c ≤ r / 2048 * 2017 := Nat.mul_le_mul_left _ hc.2
  unfold bnd; omega

theorem encBit_facts {e : Enc} {c : Nat} (he : e.Ok) (hc : rightC c) (bit : Bool) :
    (encBit e c bit).n = e.n ∧ e.v ≤ (encBit e c bit).v ∧ (encBit e c bit).v + (encBit e c bit).r ≤ e.v + e.r ∧ 253952 ≤ (encBit e c bit).r ∧ (encBit e c bit).r ≤ e.r := by
  have h1 := bnd_lo he.lo hc
  have h2 := bnd_hi he.lo hc
  unfold encBit
  cases bit
  · simp only [Bool.false_eq_true, if_false]; exact ⟨trivial, Nat.le_refl _, by omega, h1, by omega⟩
  · simp only [if_true]; exact ⟨trivial, by omega, by omega, by omega, by omega⟩

theorem encPut_ok {e : Enc} {c : Nat} (he : e.Ok) (hc : rightC c) (bit : Bool) : (encPut e c bit).Ok := by
  obtain ⟨h1, h2, h3, h4, h5⟩ := encBit_facts he hc bit
  have h6 := he.hi
  have h7 := he.fit
  unfold encPut encScale
  generalize encBit e c bit = f at *
  by_cases hr : f.r < 16777216
  · rw [if_pos hr]
    refine ⟨by simp only; omega, by simp only; omega, ?_⟩
    simp only
    rw [h1, Nat.pow_succ]
    have : f.v + f.r ≤ 256 ^ e.n := by omega
    omega
  · rw [if_neg hr]
    exact ⟨by omega, by omega, by rw [h1]; omega⟩

theorem encPut_n (e : Enc) (c : Nat) (bit : Bool) : e.n ≤ (encPut e c bit).n ∧ (encPut e c bit).n ≤ e.n + 1 := by
  have h : (encBit e c bit).n = e.n := by unfold encBit; cases bit <;> rfl
  unfold encPut encScale
  split
  · simp only; omega
  · omega

/-- Bits put, each with its chance. -/
def puts (e : Enc) (l : List (Nat × Bool)) : Enc := l.foldl (fun e a => encPut e a.1 a.2) e
def Rights (l : List (Nat × Bool)) : Prop := ∀ a ∈ l, rightC a.1
theorem puts_append (e : Enc) (a b : List (Nat × Bool)) : puts e (a ++ b) = puts (puts e a) b := List.foldl_append
theorem puts_ok {e : Enc} (he : e.Ok) : ∀ {l : List (Nat × Bool)}, Rights l → (puts e l).Ok
  | [], _ => he
  | a :: l, h => puts_ok (encPut_ok he (h a (List.mem_cons_self ..)) a.2) (l := l) fun x hx => h x (List.mem_cons_of_mem _ hx)

/-- What is put behind stays within the range. -/
theorem puts_within {e : Enc} (he : e.Ok) : ∀ {l : List (Nat × Bool)}, Rights l →
    e.n ≤ (puts e l).n ∧ e.v * 256 ^ ((puts e l).n - e.n) ≤ (puts e l).v ∧ (puts e l).v + (puts e l).r ≤ (e.v + e.r) * 256 ^ ((puts e l).n - e.n)
  | [], _ => by simp [puts]
  | a :: l, h => by
    have ha := h a (List.mem_cons_self ..)
    obtain ⟨i1, i2, i3⟩ := puts_within (encPut_ok he ha a.2) (l := l) fun x hx => h x (List.mem_cons_of_mem _ hx)
    change (encPut e a.1 a.2).n ≤ (puts e (a :: l)).n at i1
    change (encPut e a.1 a.2).v * 256 ^ ((puts e (a :: l)).n - _) ≤ (puts e (a :: l)).v at i2
    change (puts e (a :: l)).v + (puts e (a :: l)).r ≤ ((encPut e a.1 a.2).v + (encPut e a.1 a.2).r) * 256 ^ ((puts e (a :: l)).n - _) at i3
    generalize puts e (a :: l) = f at *
    obtain ⟨h1, h2, h3, -, -⟩ := encBit_facts he ha a.2
    unfold encPut encScale at i1 i2 i3
    generalize encBit e a.1 a.2 = g at *
    by_cases hr : g.r < 16777216
    · rw [if_pos hr] at i1 i2 i3
      simp only at i1 i2 i3
      rw [h1] at i1 i2 i3
      have hk : f.n - e.n = (f.n - (e.n + 1)) + 1 := by omega
      refine ⟨by omega, ?_, ?_⟩
      · rw [hk, Nat.pow_succ, Nat.mul_comm (256 ^ _), ← Nat.mul_assoc]
        exact Nat.le_trans (Nat.mul_le_mul_right _ (by omega)) i2
      · rw [hk, Nat.pow_succ, Nat.mul_comm (256 ^ _), ← Nat.mul_assoc]
        exact Nat.le_trans i3 (Nat.mul_le_mul_right _ (by omega))
    · rw [if_neg hr, h1] at i1 i2 i3
      exact ⟨i1, Nat.le_trans (Nat.mul_le_mul_right _ h2) i2, Nat.le_trans i3 (Nat.mul_le_mul_right _ h3)⟩

/-- A number's n lowest bytes, the highest first; bytes' number. -/
def bytesOf : Nat → Nat → List UInt8
  | 0, _ => []
  | n + 1, v => bytesOf n (v / 256) ++ [UInt8.ofNat (v % 256)]
def valueOf (bs : List UInt8) : Nat := bs.foldl (fun a b => 256 * a + b.toNat) 0
theorem valueOf_snoc (bs : List UInt8) (b : UInt8) : valueOf (bs ++ [b]) = 256 * valueOf bs + b.toNat := by simp [valueOf]
@[simp] theorem bytesOf_length : ∀ n v, (bytesOf n v).length = n
  | 0, _ => rfl
  | n + 1, v => by simp [bytesOf, bytesOf_length n]
theorem bytesOf_zero (n v : Nat) : bytesOf (n + 1) (v * 256) = bytesOf n v ++ [0] := by
  show bytesOf n (v * 256 / 256) ++ [UInt8.ofNat (v * 256 % 256)] = _
  rw [Nat.mul_div_cancel _ (by omega), Nat.mul_mod_left]
  rfl
theorem valueOf_bytesOf : ∀ n v, valueOf (bytesOf n v) = v % 256 ^ n
  | 0, v => by simp [bytesOf, valueOf, Nat.mod_one]
  | n + 1, v => by
    rw [bytesOf, valueOf_snoc, valueOf_bytesOf n, Nat.pow_succ]
    have h1 : (UInt8.ofNat (v % 256)).toNat = v % 256 := by simp
    rw [h1, Nat.mul_comm (256 ^ n) 256, Nat.mod_mul]
    omega
theorem snoc_cases (bs : List UInt8) : bs = [] ∨ ∃ a b, bs = a ++ [b] := by
  rcases List.eq_nil_or_concat bs with h | ⟨a, b, h⟩
  · exact .inl h
  · exact .inr ⟨a, b, by rw [h]; simp⟩
theorem bytesOf_valueOf (bs : List UInt8) : bytesOf bs.length (valueOf bs) = bs := by
  induction hn : bs.length generalizing bs with
  | zero => rw [List.length_eq_zero_iff.1 hn]; rfl
  | succ n ih =>
    rcases snoc_cases bs with rfl | ⟨a, b, rfl⟩
    · simp at hn
    · have hb := b.toNat_lt
      rw [bytesOf, valueOf_snoc, show (256 * valueOf a + b.toNat) / 256 = valueOf a by omega, show (256 * valueOf a + b.toNat) % 256 = b.toNat by omega, ih a (by simpa using hn)]
      simp
theorem take_bytesOf : ∀ n v i, i ≤ n → (bytesOf n v).take i = bytesOf i (v / 256 ^ (n - i))
  | 0, v, i, h => by
    obtain rfl : i = 0 := by omega
    rfl
  | n + 1, v, i, h => by
    by_cases hi : i = n + 1
    · subst hi
      rw [Nat.sub_self, Nat.pow_zero, Nat.div_one, List.take_of_length_le (by simp)]
    · rw [bytesOf, List.take_append_of_le_length (by simp; omega), take_bytesOf n (v / 256) i (by omega), Nat.div_div_eq_div_mul, show n + 1 - i = (n - i) + 1 by omega, Nat.pow_succ, Nat.mul_comm]

theorem valueOf_append (a b : List UInt8) : valueOf (a ++ b) = valueOf a * 256 ^ b.length + valueOf b := by
  induction hn : b.length generalizing b with
  | zero => rw [List.length_eq_zero_iff.1 hn]; simp [valueOf]
  | succ n ih =>
    rcases snoc_cases b with rfl | ⟨c, d, rfl⟩
    · simp at hn
    · have hl : c.length = n := by simpa using hn
      rw [← List.append_assoc, valueOf_snoc, ih c hl, valueOf_snoc, Nat.pow_succ, Nat.mul_add, Nat.mul_comm (256 ^ n), ← Nat.mul_assoc (valueOf a), Nat.mul_comm (valueOf a) 256, Nat.mul_assoc, Nat.add_assoc]
theorem valueOf_set (bs : List UInt8) (i : Nat) (x : UInt8) (h : i < bs.length) :
    valueOf (bs.set i x) + (bs.getD i 0).toNat * 256 ^ (bs.length - 1 - i) = valueOf bs + x.toNat * 256 ^ (bs.length - 1 - i) := by
  have e0 : ∀ y : UInt8, valueOf (bs.take i ++ y :: bs.drop (i + 1)) = (256 * valueOf (bs.take i) + y.toNat) * 256 ^ (bs.length - 1 - i) + valueOf (bs.drop (i + 1)) := by
    intro y
    rw [show bs.take i ++ y :: bs.drop (i + 1) = (bs.take i ++ [y]) ++ bs.drop (i + 1) by simp, valueOf_append, valueOf_snoc, List.length_drop, show bs.length - (i + 1) = bs.length - 1 - i by omega]
  have e1 : bs.set i x = bs.take i ++ x :: bs.drop (i + 1) := List.set_eq_take_append_cons_drop.trans (by rw [if_pos h])
  have e2 : bs = bs.take i ++ bs.getD i 0 :: bs.drop (i + 1) := by
    rw [List.getD_eq_getElem?_getD, List.getElem?_eq_getElem h]
    simp
  have h1 := e0 x
  have h2 := e0 (bs.getD i 0)
  rw [← e1] at h1
  rw [← e2] at h2
  rw [h1, h2, Nat.add_mul, Nat.add_mul]
  omega
theorem valueOf_lt (bs : List UInt8) : valueOf bs < 256 ^ bs.length := by
  have h := bytesOf_valueOf bs
  have h2 := valueOf_bytesOf bs.length (valueOf bs)
  rw [h] at h2
  rw [h2]
  exact Nat.mod_lt _ (Nat.pow_pos (by omega))
theorem of_value {bs : List UInt8} {n v : Nat} (hl : bs.length = n) (hv : valueOf bs = v) : bs = bytesOf n v := by
  rw [← hl, ← hv, bytesOf_valueOf]

/-- How many bytes were read, the rest, the range. -/
structure Dec where
  i : Nat
  rest : Nat
  r : Nat
deriving DecidableEq
def decOpen (bs : List UInt8) : Dec := ⟨4, valueOf (bs.take 4), 4294967295⟩
def decScale (bs : List UInt8) (bit : Bool) (d : Dec) : Option (Bool × Dec) :=
  if d.r < 16777216 then if d.i < bs.length then some (bit, ⟨d.i + 1, 256 * d.rest + (bs.getD d.i 0).toNat, d.r * 256⟩) else none else some (bit, d)
def decBit (d : Dec) (c : Nat) : Bool × Dec := if d.rest < bnd d.r c then (false, ⟨d.i, d.rest, bnd d.r c⟩) else (true, ⟨d.i, d.rest - bnd d.r c, d.r - bnd d.r c⟩)
/-- A bit got with a chance, or the error. -/
def decGet (bs : List UInt8) (d : Dec) (c : Nat) : Option (Bool × Dec) := if d.rest < d.r then decScale bs (decBit d c).1 (decBit d c).2 else none

/-- The decoder is where the encoder is. -/
structure At (bs : List UInt8) (d : Dec) (e : Enc) : Prop where
  i : d.i = e.n
  r : d.r = e.r
  len : e.n ≤ bs.length
  val : valueOf (bs.take e.n) = e.v + d.rest

theorem at_open (bs : List UInt8) (h : 4 ≤ bs.length) : At bs (decOpen bs) encNew := ⟨rfl, rfl, h, by simp [decOpen, encNew]⟩

theorem take_value (bs : List UInt8) (i : Nat) (h : i < bs.length) : valueOf (bs.take (i + 1)) = 256 * valueOf (bs.take i) + (bs.getD i 0).toNat := by
  rw [List.take_add_one, List.getElem?_eq_getElem h, Option.toList_some, valueOf_snoc, List.getD_eq_getElem?_getD, List.getElem?_eq_getElem h]
  rfl

/-- What is got, put, is at the same place. -/
theorem at_got {bs : List UInt8} {d d' : Dec} {e : Enc} {c : Nat} {bit : Bool} (h : At bs d e) (hg : decGet bs d c = some (bit, d')) : At bs d' (encPut e c bit) := by
  unfold decGet at hg
  split at hg
  · have hb : decBit d c = (bit, (decBit d c).2) := by
      have : (decBit d c).1 = bit := by
        unfold decScale at hg
        split at hg
        · split at hg
          · injection hg with hg; injection hg
          · cases hg
        · injection hg with hg; injection hg
      rw [← this]
    have hm : At bs (decBit d c).2 (encBit e c bit) := by
      unfold decBit at hb ⊢
      unfold encBit
      rw [h.r] at hb ⊢
      by_cases h1 : d.rest < bnd e.r c
      · rw [if_pos h1] at hb ⊢
        injection hb with hb1
        subst hb1
        exact ⟨h.i, rfl, h.len, h.val⟩
      · rw [if_neg h1] at hb ⊢
        injection hb with hb1
        subst hb1
        exact ⟨h.i, rfl, h.len, by have := h.val; simp only [if_true]; omega⟩
    rw [hb] at hg
    simp only at hg
    unfold encPut encScale
    unfold decScale at hg
    rw [hm.r] at hg
    by_cases hr : (encBit e c bit).r < 16777216
    · rw [if_pos hr] at hg ⊢
      split at hg
      · rename_i hlt
        injection hg with hg
        injection hg with _ hg
        subst hg
        rw [hm.i] at hlt ⊢
        refine ⟨rfl, rfl, hlt, ?_⟩
        simp only
        rw [take_value _ _ hlt, hm.val]
        omega
      · cases hg
    · rw [if_neg hr] at hg ⊢
      injection hg with hg
      injection hg with _ hg
      subst hg
      exact hm
  · cases hg

/-- The rest behind a bit is less than the range. -/
theorem got_rest {bs : List UInt8} {d d' : Dec} {c : Nat} {bit : Bool} (hg : decGet bs d c = some (bit, d')) : d'.rest < d'.r := by
  unfold decGet at hg
  split at hg
  · rename_i hlt
    have hb : (decBit d c).2.rest < (decBit d c).2.r := by
      unfold decBit
      split
      · assumption
      · simp only; omega
    unfold decScale at hg
    generalize decBit d c = D at hb hg
    split at hg
    · split at hg
      · injection hg with hg
        injection hg with _ hg
        subst hg
        have := (bs.getD D.2.i 0).toNat_lt
        simp only
        omega
      · cases hg
    · injection hg with hg
      injection hg with _ hg
      subst hg
      exact hb
  · cases hg

/-- That was all: the bytes are the code. -/
theorem at_end {bs : List UInt8} {d : Dec} {e : Enc} (h : At bs d e) (hi : d.i = bs.length) (hr : d.rest = 0) : bytesOf e.n e.v = bs := by
  have h1 := h.val
  rw [hr, ← h.i, hi, List.take_length] at h1
  rw [← h.i, hi, ← Nat.add_zero e.v, ← h1]
  exact bytesOf_valueOf bs

/-- What was put is got. -/
theorem got_put {tail : List UInt8} {e : Enc} {d : Dec} {c : Nat} {bit : Bool} {l : List (Nat × Bool)} (he : e.Ok) (hl : Rights ((c, bit) :: l))
    (h : At (bytesOf (puts e ((c, bit) :: l)).n (puts e ((c, bit) :: l)).v ++ tail) d e) :
    ∃ d', decGet (bytesOf (puts e ((c, bit) :: l)).n (puts e ((c, bit) :: l)).v ++ tail) d c = some (bit, d') := by
  have hc : rightC c := hl (c, bit) (List.mem_cons_self ..)
  have hp := encPut_ok he hc bit
  obtain ⟨w1, w2, w3⟩ := puts_within hp (l := l) fun x hx => hl x (List.mem_cons_of_mem _ hx)
  have hfo := puts_ok he hl
  change (encPut e c bit).n ≤ (puts e ((c, bit) :: l)).n at w1
  change (encPut e c bit).v * 256 ^ ((puts e ((c, bit) :: l)).n - _) ≤ (puts e ((c, bit) :: l)).v at w2
  change (puts e ((c, bit) :: l)).v + (puts e ((c, bit) :: l)).r ≤ ((encPut e c bit).v + (encPut e c bit).r) * 256 ^ ((puts e ((c, bit) :: l)).n - _) at w3
  generalize puts e ((c, bit) :: l) = f at *
  have hfr := hfo.lo
  have hff := hfo.fit
  obtain ⟨b1, b2, b3, b4, b5⟩ := encBit_facts he hc bit
  have hn := encPut_n e c bit
  -- the number of the bytes up to where the decoder is
  have hval : f.v / 256 ^ (f.n - e.n) = e.v + d.rest := by
    have h1 := h.val
    rw [List.take_append_of_le_length (by simp; omega), take_bytesOf _ _ _ (by omega), valueOf_bytesOf, Nat.mod_eq_of_lt] at h1
    · exact h1
    · rw [Nat.div_lt_iff_lt_mul (Nat.pow_pos (by omega)), ← Nat.pow_add, show e.n + (f.n - e.n) = f.n by omega]
      omega
  -- it lies in the range of what was put
  have hin : (encBit e c bit).v ≤ e.v + d.rest ∧ e.v + d.rest < (encBit e c bit).v + (encBit e c bit).r := by
    rw [← hval]
    unfold encPut encScale at w1 w2 w3
    by_cases hr : (encBit e c bit).r < 16777216
    · rw [if_pos hr] at w1 w2 w3
      simp only at w1 w2 w3
      rw [b1] at w1 w2 w3
      have hk : f.n - e.n = (f.n - (e.n + 1)) + 1 := by omega
      have hpp : 256 ^ (f.n - e.n) = 256 * 256 ^ (f.n - (e.n + 1)) := by rw [hk, Nat.pow_succ, Nat.mul_comm]
      rw [hpp]
      have hpos : 0 < 256 * 256 ^ (f.n - (e.n + 1)) := Nat.mul_pos (by omega) (Nat.pow_pos (by omega))
      constructor
      · rw [Nat.le_div_iff_mul_le hpos, ← Nat.mul_assoc]; exact w2
      · rw [Nat.div_lt_iff_lt_mul hpos, ← Nat.mul_assoc, Nat.add_mul]
        omega
    · rw [if_neg hr, b1] at w1 w2 w3
      have hpos : 0 < 256 ^ (f.n - e.n) := Nat.pow_pos (by omega)
      constructor
      · rw [Nat.le_div_iff_mul_le hpos]; exact w2
      · rw [Nat.div_lt_iff_lt_mul hpos]; omega
  have hlt : d.rest < d.r := by rw [h.r]; omega
  have hbit : (decBit d c).1 = bit ∧ (decBit d c).2.r = (encBit e c bit).r ∧ (decBit d c).2.i = e.n := by
    unfold decBit
    rw [h.r]
    unfold encBit at hin ⊢
    cases bit
    · simp only [Bool.false_eq_true, if_false] at hin ⊢
      rw [if_pos (by omega)]
      exact ⟨rfl, rfl, h.i⟩
    · simp only [if_true] at hin ⊢
      rw [if_neg (by omega)]
      exact ⟨rfl, rfl, h.i⟩
  unfold decGet
  rw [if_pos hlt, hbit.1]
  unfold decScale
  rw [hbit.2.1]
  by_cases hr : (encBit e c bit).r < 16777216
  · have hn2 : (encPut e c bit).n = e.n + 1 := by unfold encPut encScale; rw [if_pos hr, ← b1]
    rw [if_pos hr, hbit.2.2, if_pos (by simp; omega)]
    exact ⟨_, rfl⟩
  · rw [if_neg hr]
    exact ⟨_, rfl⟩

/-- A code is as long as the bits that were put, at most. -/
theorem puts_n : ∀ (l : List (Nat × Bool)) (e : Enc), (puts e l).n ≤ e.n + l.length
  | [], e => by simp [puts]
  | a :: l, e => by
    have h1 := puts_n l (encPut e a.1 a.2)
    have h2 := (encPut_n e a.1 a.2).2
    change (puts e (a :: l)).n ≤ _ at h1
    simp only [List.length_cons]
    omega

/-- Zeros with the chance that follows them: how long the code becomes. -/
def zerosRun : Nat → Nat → Nat → Nat → Nat × Nat × Nat
  | 0, c, r, n => (c, r, n)
  | k + 1, c, r, n =>
    let b := bnd r c
    if b < 16777216 then zerosRun k (nextC c false) (b * 256) (n + 1) else zerosRun k (nextC c false) b n
def zerosFine : Nat → Nat → Nat → Nat → Nat → Bool
  | 0, _, _, _, _ => true
  | k + 1, j, c, r, n =>
    decide (n ≤ 13 + j / 300) && (let b := bnd r c
    if b < 16777216 then zerosFine k (j + 1) (nextC c false) (b * 256) (n + 1) else zerosFine k (j + 1) (nextC c false) b n)
theorem zeros_fine : zerosFine 4001 0 1024 4294967295 4 = true := by decide +kernel

/-- As many ones as may be: the least chance; as many zeros: the greatest. -/
def iterC (bit : Bool) : Nat → Nat → Nat
  | 0, c => c
  | n + 1, c => iterC bit n (nextC c bit)
theorem nextC_mono (bit : Bool) {c d : Nat} (hc : rightC c) (hd : rightC d) (h : c ≤ d) : nextC c bit ≤ nextC d bit := by
  unfold nextC
  rw [clampC_same hc, clampC_same hd]
  cases bit
  · simp only [Bool.false_eq_true, if_false]; omega
  · simp only [if_true]; omega
theorem iterC_mono (bit : Bool) : ∀ (n : Nat) {c d : Nat}, rightC c → rightC d → c ≤ d → iterC bit n c ≤ iterC bit n d
  | 0, _, _, _, _, h => h
  | n + 1, _, _, hc, hd, h => iterC_mono bit n (nextC_right _ _) (nextC_right _ _) (nextC_mono bit hc hd h)
theorem iter_least {c : Nat} (hc : rightC c) : iterC true 300 c = 31 := by
  have h1 := iterC_mono true 300 hc (d := 2017) ⟨by omega, by omega⟩ hc.2
  have h2 := iterC_mono true 300 (c := 31) ⟨by omega, by omega⟩ hc hc.1
  have h3 : iterC true 300 2017 = 31 := by decide +kernel
  have h4 : iterC true 300 31 = 31 := by decide +kernel
  omega
theorem iter_greatest {c : Nat} (hc : rightC c) : iterC false 300 c = 2017 := by
  have h1 := iterC_mono false 300 hc (d := 2017) ⟨by omega, by omega⟩ hc.2
  have h2 := iterC_mono false 300 (c := 31) ⟨by omega, by omega⟩ hc hc.1
  have h3 : iterC false 300 2017 = 2017 := by decide +kernel
  have h4 : iterC false 300 31 = 2017 := by decide +kernel
  omega
end Go.Proofs.Ytendcmdpmohacaa

/-
  A book's chances; numbers as bits with their places; what is put and what is got; there and back. Plain: no program text.
-/
namespace Go.Proofs.Ytendcmdpmohacaa

/-! A book: of each place (37 of a topic) its chance. A bit's place in its topic; none: even. -/
abbrev Chs := Nat → Nat
abbrev Ev := Option Nat × Bool
def upd (f : Chs) (k x : Nat) : Chs := fun j => if j = k then x else f j
def newBook : Chs := fun _ => 1024
def chOf (B : Chs) (t : Nat) : Option Nat → Nat
  | none => 1024
  | some i => B (37 * t + i)
def learn (B : Chs) (t : Nat) : Option Nat → Bool → Chs
  | none, _ => B
  | some i, b => upd B (37 * t + i) (nextC (B (37 * t + i)) b)
def FineB (B : Chs) : Prop := ∀ j, rightC (B j)
theorem newBook_fine : FineB newBook := fun _ => by show rightC 1024; decide
theorem chOf_right {B : Chs} (h : FineB B) (t : Nat) (i : Option Nat) : rightC (chOf B t i) := by
  cases i with
  | none => show rightC 1024; decide
  | some i => exact h _
theorem learn_fine {B : Chs} (h : FineB B) (t : Nat) (i : Option Nat) (b : Bool) : FineB (learn B t i b) := by
  cases i with
  | none => exact h
  | some i =>
    intro j
    show rightC (if j = 37 * t + i then _ else B j)
    split
    · exact nextC_right _ _
    · exact h j
/-- The chances and bits of a row of bits; the book behind them. -/
def track (t : Nat) : Chs → List Ev → List (Nat × Bool)
  | _, [] => []
  | B, (i, b) :: l => (chOf B t i, b) :: track t (learn B t i b) l
def learned (t : Nat) : Chs → List Ev → Chs
  | B, [] => B
  | B, (i, b) :: l => learned t (learn B t i b) l
theorem learned_fine (t : Nat) : ∀ (l : List Ev) {B : Chs}, FineB B → FineB (learned t B l)
  | [], _, h => h
  | (i, b) :: l, _, h => learned_fine t l (learn_fine h t i b)
theorem track_rights (t : Nat) : ∀ (l : List Ev) {B : Chs}, FineB B → Rights (track t B l)
  | [], _, _ => fun _ h => by cases h
  | (i, b) :: l, _, h => fun x hx => by
    rcases List.mem_cons.1 hx with rfl | hx
    · exact chOf_right h t i
    · exact track_rights t l (learn_fine h t i b) x hx
theorem learned_append (t : Nat) : ∀ (l m : List Ev) (B : Chs), learned t B (l ++ m) = learned t (learned t B l) m
  | [], _, _ => rfl
  | (_, _) :: l, m, _ => learned_append t l m _
theorem track_append (t : Nat) : ∀ (l m : List Ev) (B : Chs), track t B (l ++ m) = track t B l ++ track t (learned t B l) m
  | [], _, _ => rfl
  | (i, b) :: l, m, B => by
    show (_ :: track t (learn B t i b) (l ++ m)) = _
    rw [track_append t l m]
    rfl
@[simp] theorem track_length (t : Nat) : ∀ (l : List Ev) (B : Chs), (track t B l).length = l.length
  | [], _ => rfl
  | (i, b) :: l, B => by simp [track, track_length t l]

/-! Numbers as bits with places. -/
def place (i a : Nat) : Option Nat := if i < 4 then some (20 + (2 ^ i - 1) + a) else none
def bitEvs : Nat → Nat → List Bool → List Ev
  | _, _, [] => []
  | i, a, b :: l => (place i a, b) :: bitEvs (i + 1) (2 * a + b.toNat) l
def onesEvs (n : Nat) : Nat → List Ev
  | 0 => []
  | k + 1 => (some n, true) :: onesEvs (n + 1) k
/-- How many bits. -/
def bitLen (v : Nat) : Nat := if v = 0 then 0 else v.log2 + 1
theorem bitLen_step {v : Nat} (h : v ≠ 0) : bitLen v = bitLen (v / 2) + 1 := by
  unfold bitLen
  rw [if_neg h, Nat.log2_def]
  by_cases h2 : 2 ≤ v
  · rw [if_pos h2, if_neg (by omega)]
  · rw [if_neg h2, if_pos (by omega)]
def stopEvs (n : Nat) : List Ev := if n < 20 then [(some n, false)] else []
def numEvs (v : Nat) : List Ev := onesEvs 0 (v + 1).log2 ++ (stopEvs (v + 1).log2 ++ bitEvs 0 0 (digits (v + 1) (v + 1).log2))
def signEvs (x : Int) : List Ev := if x = 0 then [] else [(some 36, decide (x < 0))]
def sgnEvs (x : Int) : List Ev := numEvs x.natAbs ++ signEvs x
def oneEvs (n v : Nat) : List Ev := bitEvs 0 0 (digits v (bitLen (n - 1)))
theorem log2_level {v : Nat} (h : v ≤ 1048576) : (v + 1).log2 ≤ 20 := by
  have : (v + 1).log2 < 21 := (Nat.log2_lt (by omega)).2 (by omega)
  omega
@[simp] theorem bitEvs_length : ∀ (l : List Bool) (i a : Nat), (bitEvs i a l).length = l.length
  | [], _, _ => rfl
  | b :: l, i, a => by simp [bitEvs, bitEvs_length l]
@[simp] theorem onesEvs_length : ∀ (k n : Nat), (onesEvs n k).length = k
  | 0, _ => rfl
  | k + 1, n => by simp [onesEvs, onesEvs_length k]
theorem numEvs_length {v : Nat} (h : v ≤ 1048576) : (numEvs v).length ≤ 41 := by
  have := log2_level h
  unfold numEvs stopEvs
  simp
  split <;> simp <;> omega

/-- An act: its topic is right and its number may be. -/
def actEvs (k t n v : Int) : Option (List Ev) :=
  if t < 0 ∨ 15 < t then none
  else if k = 1 then if 0 ≤ v ∧ v ≤ 1048576 then some (numEvs v.toNat) else none
  else if k = 2 then if -1048576 ≤ v ∧ v ≤ 1048576 then some (sgnEvs v) else none
  else if 1 ≤ n ∧ n ≤ 16 ∧ 0 ≤ v ∧ v < n then some (oneEvs n.toNat v.toNat) else none

/-! Getting. -/
def getEv (bs : List UInt8) (t : Nat) (B : Chs) (d : Dec) (i : Option Nat) : Option (Bool × Chs × Dec) :=
  match decGet bs d (chOf B t i) with
  | none => none
  | some (b, d') => some (b, learn B t i b, d')
def getLen (bs : List UInt8) (t : Nat) : Nat → Nat → Chs → Dec → Option (Nat × Chs × Dec)
  | 0, n, B, d => some (n, B, d)
  | k + 1, n, B, d =>
    match getEv bs t B d (some n) with
    | none => none
    | some (b, B', d') => if b then getLen bs t k (n + 1) B' d' else some (n, B', d')
def getBits (bs : List UInt8) (t : Nat) : Nat → Nat → Nat → Chs → Dec → Option (Nat × Chs × Dec)
  | 0, _, a, B, d => some (a, B, d)
  | k + 1, i, a, B, d =>
    match getEv bs t B d (place i a) with
    | none => none
    | some (b, B', d') => getBits bs t k (i + 1) (2 * a + b.toNat) B' d'
/-- A number, or the error: 41 of the decoder's, 51 of too great a one. -/
inductive Got where
  | bad (e : Int)
  | ok (v : Int) (B : Chs) (d : Dec)
def getNum (bs : List UInt8) (t : Nat) (B : Chs) (d : Dec) : Got :=
  match getLen bs t 20 0 B d with
  | none => .bad 41
  | some (n, B1, d1) =>
    match getBits bs t n 0 0 B1 d1 with
    | none => .bad 41
    | some (a, B2, d2) => if 1048576 < 2 ^ n + a - 1 then .bad 51 else .ok ((2 ^ n + a - 1 : Nat) : Int) B2 d2
def getSign (bs : List UInt8) (t : Nat) (v : Int) (B : Chs) (d : Dec) : Got :=
  if v = 0 then .ok 0 B d else
  match getEv bs t B d (some 36) with
  | none => .bad 41
  | some (b, B', d') => .ok (if b then -v else v) B' d'
def getSgn (bs : List UInt8) (t : Nat) (B : Chs) (d : Dec) : Got :=
  match getNum bs t B d with
  | .bad e => .bad e
  | .ok v B' d' => getSign bs t v B' d'
def getOne (bs : List UInt8) (t n : Nat) (B : Chs) (d : Dec) : Got :=
  match getBits bs t (bitLen (n - 1)) 0 0 B d with
  | none => .bad 41
  | some (a, B', d') => if n ≤ a then .bad 51 else .ok (a : Int) B' d'
def getAct (bs : List UInt8) (k t n : Int) (B : Chs) (d : Dec) : Got :=
  if t < 0 ∨ 15 < t then .bad 1
  else if k = 1 then getNum bs t.toNat B d
  else if k = 2 then getSgn bs t.toNat B d
  else if n < 1 ∨ 16 < n then .bad 1 else getOne bs t.toNat n.toNat B d

/-! There and back. -/
/-- In the bytes bs, from d on, lies what L puts. -/
def Ahd (tl bs : List UInt8) (d : Dec) (L : List (Nat × Bool)) : Prop :=
  ∃ e, e.Ok ∧ At bs d e ∧ Rights L ∧ bs = bytesOf (puts e L).n (puts e L).v ++ tl
theorem Ahd.step {tl bs : List UInt8} {d : Dec} {c : Nat} {b : Bool} {L : List (Nat × Bool)} (h : Ahd tl bs d ((c, b) :: L)) : ∃ d', decGet bs d c = some (b, d') ∧ Ahd tl bs d' L := by
  obtain ⟨e, he, ha, hr, hb⟩ := h
  have ha' := ha
  rw [hb] at ha'
  obtain ⟨d', hd⟩ := got_put he hr ha'
  rw [← hb] at hd
  refine ⟨d', hd, encPut e c b, encPut_ok he (hr (c, b) (List.mem_cons_self ..)) b, at_got ha hd, fun x hx => hr x (List.mem_cons_of_mem _ hx), hb⟩
theorem Ahd.ev {tl bs : List UInt8} {d : Dec} {t : Nat} {B : Chs} {i : Option Nat} {b : Bool} {l : List Ev} {L : List (Nat × Bool)} (h : Ahd tl bs d (track t B ((i, b) :: l) ++ L)) :
    ∃ d', getEv bs t B d i = some (b, learn B t i b, d') ∧ Ahd tl bs d' (track t (learn B t i b) l ++ L) := by
  obtain ⟨d', hd, ha⟩ := h.step
  refine ⟨d', ?_, ha⟩
  unfold getEv
  rw [hd]
theorem Ahd.bits {tl bs : List UInt8} {t : Nat} {L : List (Nat × Bool)} : ∀ (l : List Bool) (i a : Nat) (B : Chs) (d : Dec) (m : List Ev), Ahd tl bs d (track t B (bitEvs i a l ++ m) ++ L) →
    ∃ d', getBits bs t l.length i a B d = some (l.foldl (fun a b => 2 * a + b.toNat) a, learned t B (bitEvs i a l), d') ∧ Ahd tl bs d' (track t (learned t B (bitEvs i a l)) m ++ L)
  | [], i, a, B, d, m, h => ⟨d, rfl, h⟩
  | b :: l, i, a, B, d, m, h => by
    obtain ⟨d1, h1, h2⟩ := Ahd.ev (l := bitEvs (i + 1) (2 * a + b.toNat) l ++ m) h
    obtain ⟨d2, h3, h4⟩ := Ahd.bits l _ _ _ _ _ h2
    refine ⟨d2, ?_, h4⟩
    show (match getEv bs t B d (place i a) with | none => none | some (b, B', d') => getBits bs t l.length (i + 1) (2 * a + b.toNat) B' d') = _
    rw [h1]
    exact h3
theorem Ahd.len {tl bs : List UInt8} {t : Nat} {L : List (Nat × Bool)} : ∀ (k j n : Nat) (B : Chs) (d : Dec) (m : List Ev), n + k + j = 20 → Ahd tl bs d (track t B (onesEvs n k ++ (stopEvs (n + k) ++ m)) ++ L) →
    ∃ d', getLen bs t (k + j) n B d = some (n + k, learned t B (onesEvs n k ++ stopEvs (n + k)), d') ∧ Ahd tl bs d' (track t (learned t B (onesEvs n k ++ stopEvs (n + k))) m ++ L)
  | 0, 0, n, B, d, m, hn, h => by
    have e : stopEvs (n + 0) = [] := by unfold stopEvs; rw [if_neg (by omega)]
    rw [e] at h ⊢
    exact ⟨d, rfl, h⟩
  | 0, j + 1, n, B, d, m, hn, h => by
    have e : stopEvs (n + 0) = [(some n, false)] := by unfold stopEvs; rw [if_pos (by omega)]; rfl
    rw [e] at h ⊢
    obtain ⟨d1, h1, h2⟩ := Ahd.ev (l := m) h
    refine ⟨d1, ?_, h2⟩
    rw [show 0 + (j + 1) = j + 1 by omega]
    show (match getEv bs t B d (some n) with | none => none | some (b, B', d') => if b then getLen bs t j (n + 1) B' d' else some (n, B', d')) = _
    rw [h1]
    rfl
  | k + 1, j, n, B, d, m, hn, h => by
    obtain ⟨d1, h1, h2⟩ := Ahd.ev (l := onesEvs (n + 1) k ++ (stopEvs (n + (k + 1)) ++ m)) h
    rw [show n + (k + 1) = n + 1 + k by omega] at h2 ⊢
    obtain ⟨d2, h3, h4⟩ := Ahd.len k j (n + 1) _ _ _ (by omega) h2
    refine ⟨d2, ?_, h4⟩
    rw [show k + 1 + j = (k + j) + 1 by omega]
    show (match getEv bs t B d (some n) with | none => none | some (b, B', d') => if b then getLen bs t (k + j) (n + 1) B' d' else some (n, B', d')) = _
    rw [h1]
    exact h3
theorem Ahd.num {tl bs : List UInt8} {t : Nat} {L : List (Nat × Bool)} {v : Nat} (hv : v ≤ 1048576) (B : Chs) (d : Dec) (m : List Ev) (h : Ahd tl bs d (track t B (numEvs v ++ m) ++ L)) :
    ∃ d', getNum bs t B d = .ok (v : Int) (learned t B (numEvs v)) d' ∧ Ahd tl bs d' (track t (learned t B (numEvs v)) m ++ L) := by
  have hl := log2_level hv
  unfold numEvs at h
  rw [List.append_assoc, List.append_assoc] at h
  obtain ⟨d1, h1, h2⟩ := Ahd.len (v + 1).log2 (20 - (v + 1).log2) 0 B d (bitEvs 0 0 (digits (v + 1) (v + 1).log2) ++ m) (by omega) (by simpa using h)
  rw [show (v + 1).log2 + (20 - (v + 1).log2) = 20 by omega, Nat.zero_add] at h1
  rw [Nat.zero_add] at h2
  obtain ⟨d2, h3, h4⟩ := Ahd.bits _ _ _ _ _ _ h2
  have e1 : learned t (learned t B (onesEvs 0 (v + 1).log2 ++ stopEvs (v + 1).log2)) (bitEvs 0 0 (digits (v + 1) (v + 1).log2)) = learned t B (numEvs v) := by
    rw [← learned_append, List.append_assoc]
    rfl
  rw [e1] at h3 h4
  have e2 : (digits (v + 1) (v + 1).log2).foldl (fun a b => 2 * a + b.toNat) 0 = (v + 1) % 2 ^ (v + 1).log2 := number_digits _ _
  rw [e2, digits_length] at h3
  refine ⟨d2, ?_, h4⟩
  have b1 : 2 ^ (v + 1).log2 ≤ v + 1 := Nat.log2_self_le (by omega)
  have b2 : v + 1 < 2 ^ ((v + 1).log2 + 1) := Nat.lt_log2_self
  have e3 : (v + 1) % 2 ^ (v + 1).log2 = v + 1 - 2 ^ (v + 1).log2 := by
    rw [Nat.pow_succ] at b2
    rw [Nat.mod_eq_sub_mod b1, Nat.mod_eq_of_lt (by omega)]
  rw [e3] at h3
  unfold getNum
  rw [h1]
  simp only [h3]
  rw [if_neg (by omega)]
  congr 1
  omega
theorem Ahd.sgn {tl bs : List UInt8} {t : Nat} {L : List (Nat × Bool)} {x : Int} (h1 : -1048576 ≤ x) (h2 : x ≤ 1048576) (B : Chs) (d : Dec) (m : List Ev) (h : Ahd tl bs d (track t B (sgnEvs x ++ m) ++ L)) :
    ∃ d', getSgn bs t B d = .ok x (learned t B (sgnEvs x)) d' ∧ Ahd tl bs d' (track t (learned t B (sgnEvs x)) m ++ L) := by
  unfold sgnEvs at h
  rw [List.append_assoc] at h
  obtain ⟨d1, g1, g2⟩ := Ahd.num (v := x.natAbs) (by omega) B d _ h
  unfold getSgn
  rw [g1]
  simp only
  unfold getSign
  by_cases hx : x = 0
  · have e : signEvs x = [] := by unfold signEvs; rw [if_pos hx]
    rw [if_pos (by omega)]
    rw [e] at g2
    refine ⟨d1, ?_, ?_⟩
    · unfold sgnEvs
      rw [e, List.append_nil, hx]
    · unfold sgnEvs
      rw [e, List.append_nil]
      exact g2
  · have e : signEvs x = [(some 36, decide (x < 0))] := by unfold signEvs; rw [if_neg hx]
    rw [if_neg (by omega)]
    rw [e] at g2
    obtain ⟨d2, k1, k2⟩ := Ahd.ev (l := m) g2
    have e2 : learned t B (sgnEvs x) = learn (learned t B (numEvs x.natAbs)) t (some 36) (decide (x < 0)) := by
      unfold sgnEvs
      rw [e, learned_append]
      rfl
    rw [k1, e2]
    refine ⟨d2, ?_, k2⟩
    simp only
    congr 1
    by_cases hn : x < 0
    · rw [if_pos (by simpa using hn)]; omega
    · rw [if_neg (by simpa using hn)]; omega
theorem bitLen_lt (n : Nat) : n < 2 ^ bitLen n := by
  unfold bitLen
  split
  · subst n; decide
  · exact Nat.lt_log2_self
theorem Ahd.one {tl bs : List UInt8} {t : Nat} {L : List (Nat × Bool)} {n v : Nat} (hv : v < n) (B : Chs) (d : Dec) (m : List Ev) (h : Ahd tl bs d (track t B (oneEvs n v ++ m) ++ L)) :
    ∃ d', getOne bs t n B d = .ok (v : Int) (learned t B (oneEvs n v)) d' ∧ Ahd tl bs d' (track t (learned t B (oneEvs n v)) m ++ L) := by
  obtain ⟨d1, g1, g2⟩ := Ahd.bits (digits v (bitLen (n - 1))) 0 0 B d m h
  have e2 : (digits v (bitLen (n - 1))).foldl (fun a b => 2 * a + b.toNat) 0 = v := by
    have h1 := number_digits v (bitLen (n - 1))
    have h2 := bitLen_lt (n - 1)
    rw [Nat.mod_eq_of_lt (by omega)] at h1
    exact h1
  rw [e2, digits_length] at g1
  refine ⟨d1, ?_, g2⟩
  unfold getOne
  rw [g1]
  simp only
  rw [if_neg (by omega)]
  rfl
theorem Ahd.act {tl bs : List UInt8} {k t n v : Int} {l : List Ev} {L : List (Nat × Bool)} (ha : actEvs k t n v = some l) (B : Chs) (d : Dec) (h : Ahd tl bs d (track t.toNat B l ++ L)) :
    ∃ d', getAct bs k t n B d = .ok v (learned t.toNat B l) d' ∧ Ahd tl bs d' L := by
  have h0 : Ahd tl bs d (track t.toNat B (l ++ []) ++ L) := by rw [List.append_nil]; exact h
  unfold actEvs at ha
  unfold getAct
  split at ha
  · cases ha
  · rename_i ht
    rw [if_neg ht]
    split at ha
    · rename_i hk
      rw [if_pos hk]
      split at ha
      · rename_i hv
        injection ha with ha
        subst ha
        obtain ⟨d', g1, g2⟩ := Ahd.num (by omega) B d [] h0
        rw [g1]
        exact ⟨d', by congr 1; omega, g2⟩
      · cases ha
    · rename_i hk
      rw [if_neg hk]
      split at ha
      · rename_i hk2
        rw [if_pos hk2]
        split at ha
        · rename_i hv
          injection ha with ha
          subst ha
          exact Ahd.sgn hv.1 hv.2 B d [] h0
        · cases ha
      · rename_i hk2
        rw [if_neg hk2]
        split at ha
        · rename_i hv
          injection ha with ha
          subst ha
          rw [if_neg (by omega)]
          obtain ⟨d', g1, g2⟩ := Ahd.one (n := n.toNat) (v := v.toNat) (by omega) B d [] h0
          rw [g1]
          exact ⟨d', by congr 1; omega, g2⟩
        · cases ha

/-- What was put by an encoder lies ahead; behind it all, that was all. -/
theorem ahd_open {L : List (Nat × Bool)} (hr : Rights L) (tl : List UInt8) : Ahd tl (bytesOf (puts encNew L).n (puts encNew L).v ++ tl) (decOpen (bytesOf (puts encNew L).n (puts encNew L).v ++ tl)) L := by
  have h4 : 4 ≤ (puts encNew L).n := (puts_within encNew_ok hr).1
  exact ⟨encNew, encNew_ok, at_open _ (by simp; omega), hr, rfl⟩
theorem Ahd.done {bs : List UInt8} {d : Dec} (h : Ahd [] bs d []) : d.i = bs.length ∧ d.rest = 0 := by
  obtain ⟨e, he, ha, -, hb⟩ := h
  rw [List.append_nil] at hb
  change bs = bytesOf e.n e.v at hb
  have h1 := ha.val
  have h2 : bs.length = e.n := by rw [hb]; simp
  rw [← h2, List.take_length, hb, valueOf_bytesOf, Nat.mod_eq_of_lt (by have := he.fit; have := he.lo; omega)] at h1
  exact ⟨by rw [ha.i, h2], by omega⟩
theorem Ahd.range {tl bs : List UInt8} {d : Dec} {L : List (Nat × Bool)} (h : Ahd tl bs d L) : 16777216 ≤ d.r ∧ d.r ≤ 4294967295 ∧ d.i ≤ bs.length := by
  obtain ⟨e, he, ha, -, -⟩ := h
  rw [ha.r, ha.i]
  exact ⟨he.lo, he.hi, ha.len⟩
end Go.Proofs.Ytendcmdpmohacaa

/-
  A book's topics are apart; what comes again is shorter. Plain: no program text.
-/
namespace Go.Proofs.Ytendcmdpmohacaa

/-! The places of what is put lie in their topic. -/
def InTopic (l : List Ev) : Prop := ∀ x ∈ l, ∀ i, x.1 = some i → i < 37
theorem InTopic.append {l m : List Ev} (h : InTopic l) (k : InTopic m) : InTopic (l ++ m) := fun x hx => by
  rcases List.mem_append.1 hx with hx | hx
  · exact h x hx
  · exact k x hx
theorem place_lt {i a : Nat} (ha : a < 2 ^ i) : ∀ j, place i a = some j → j < 37 := by
  intro j hj
  unfold place at hj
  split at hj
  · rename_i h
    injection hj with hj
    have : i = 0 ∨ i = 1 ∨ i = 2 ∨ i = 3 := by omega
    rcases this with rfl | rfl | rfl | rfl <;> simp at ha hj <;> omega
  · cases hj
theorem bitEvs_in : ∀ (l : List Bool) (i a : Nat), a < 2 ^ i → InTopic (bitEvs i a l)
  | [], _, _, _ => fun _ h => by cases h
  | b :: l, i, a, ha => fun x hx => by
    rcases List.mem_cons.1 hx with rfl | hx
    · exact place_lt ha
    · refine bitEvs_in l (i + 1) (2 * a + b.toNat) ?_ x hx
      rw [Nat.pow_succ]
      have := Bool.toNat_le b
      omega
theorem onesEvs_in : ∀ (k n : Nat), n + k ≤ 20 → InTopic (onesEvs n k)
  | 0, _, _ => fun _ h => by cases h
  | k + 1, n, hn => fun x hx => by
    rcases List.mem_cons.1 hx with rfl | hx
    · intro i hi
      injection hi with hi
      omega
    · exact onesEvs_in k (n + 1) (by omega) x hx
theorem stopEvs_in (n : Nat) : InTopic (stopEvs n) := by
  unfold stopEvs
  split
  · intro x hx i hi
    simp at hx
    subst hx
    injection hi with hi
    omega
  · exact fun _ h => by cases h
theorem numEvs_in {v : Nat} (h : v ≤ 1048576) : InTopic (numEvs v) :=
  (onesEvs_in _ _ (by have := log2_level h; omega)).append ((stopEvs_in _).append (bitEvs_in _ _ _ (by decide)))
theorem signEvs_in (x : Int) : InTopic (signEvs x) := by
  unfold signEvs
  split
  · exact fun _ h => by cases h
  · intro y hy i hi
    simp at hy
    subst hy
    injection hi with hi
    omega
theorem actEvs_in {k t n v : Int} {l : List Ev} (h : actEvs k t n v = some l) : InTopic l := by
  unfold actEvs at h
  split at h
  · cases h
  · split at h
    · split at h
      · injection h with h; subst h; exact numEvs_in (by omega)
      · cases h
    · split at h
      · split at h
        · injection h with h; subst h; exact (numEvs_in (by omega)).append (signEvs_in _)
        · cases h
      · split at h
        · injection h with h; subst h; exact bitEvs_in _ _ _ (by decide)
        · cases h
theorem bitLen_le {n : Nat} (h : n ≤ 16) : bitLen (n - 1) ≤ 4 := by
  unfold bitLen
  split
  · omega
  · have : (n - 1).log2 < 4 := (Nat.log2_lt (by omega)).2 (by omega)
    omega
theorem actEvs_length {k t n v : Int} {l : List Ev} (h : actEvs k t n v = some l) : l.length ≤ 42 := by
  unfold actEvs at h
  split at h
  · cases h
  · split at h
    · split at h
      · injection h with h; subst h; exact Nat.le_trans (numEvs_length (by omega)) (by omega)
      · cases h
    · split at h
      · split at h
        · injection h with h; subst h
          have h1 := numEvs_length (v := v.natAbs) (by omega)
          unfold sgnEvs signEvs
          rw [List.length_append]
          split <;> simp <;> omega
        · cases h
      · split at h
        · injection h with h; subst h
          unfold oneEvs
          have := bitLen_le (n := n.toNat) (by omega)
          simp
          omega
        · cases h

/-! What is put hangs on its own topic's chances, and turns no others. -/
def SameAt (t : Nat) (B C : Chs) : Prop := ∀ i, i < 37 → B (37 * t + i) = C (37 * t + i)
theorem learn_other {B : Chs} {t s : Nat} {i : Option Nat} {b : Bool} (hi : ∀ j, i = some j → j < 37) (h : s ≠ t) : SameAt s (learn B t i b) B := by
  intro k hk
  cases i with
  | none => rfl
  | some i =>
    have := hi i rfl
    show (if 37 * s + k = 37 * t + i then _ else _) = _
    rw [if_neg (by omega)]
theorem learned_other {t s : Nat} (h : s ≠ t) : ∀ (l : List Ev) (B : Chs), InTopic l → SameAt s (learned t B l) B
  | [], _, _ => fun _ _ => rfl
  | (i, b) :: l, B, hl => fun k hk => by
    have h1 := learned_other h l (learn B t i b) (fun x hx => hl x (List.mem_cons_of_mem _ hx)) k hk
    have h2 := learn_other (B := B) (t := t) (b := b) (hl (i, b) (List.mem_cons_self ..)) h k hk
    exact h1.trans h2
theorem learn_same {B C : Chs} {t : Nat} {i : Option Nat} {b : Bool} (hi : ∀ j, i = some j → j < 37) (h : SameAt t B C) : SameAt t (learn B t i b) (learn C t i b) := by
  intro k hk
  cases i with
  | none => exact h k hk
  | some i =>
    have hi := h i (hi i rfl)
    show (if 37 * t + k = 37 * t + i then _ else _) = (if 37 * t + k = 37 * t + i then _ else _)
    rw [hi, h k hk]
theorem chOf_same {B C : Chs} {t : Nat} {i : Option Nat} (hi : ∀ j, i = some j → j < 37) (h : SameAt t B C) : chOf B t i = chOf C t i := by
  cases i with
  | none => rfl
  | some i => exact h i (hi i rfl)
theorem track_same {t : Nat} : ∀ (l : List Ev) (B C : Chs), InTopic l → SameAt t B C → track t B l = track t C l
  | [], _, _, _, _ => rfl
  | (i, b) :: l, B, C, hl, h => by
    have hi := hl (i, b) (List.mem_cons_self ..)
    show (chOf B t i, b) :: _ = (chOf C t i, b) :: _
    rw [chOf_same hi h, track_same l _ _ (fun x hx => hl x (List.mem_cons_of_mem _ hx)) (learn_same hi h)]

/-! What comes again. -/
theorem learn_at (B : Chs) (t i j : Nat) (b : Bool) : learn B t (some i) b (37 * t + j) = if j = i then nextC (B (37 * t + i)) b else B (37 * t + j) := by
  show (if 37 * t + j = 37 * t + i then _ else _) = _
  by_cases h : j = i
  · rw [if_pos (by omega), if_pos h]
  · rw [if_neg (by omega), if_neg h]
/-- Bits at places that all differ: each goes by its own chance. -/
theorem track_apart (t : Nat) : ∀ (ps : List (Nat × Bool)) (B : Chs), (ps.map Prod.fst).Nodup → track t B (ps.map fun x => (some x.1, x.2)) = ps.map fun x => (B (37 * t + x.1), x.2)
  | [], _, _ => rfl
  | (i, b) :: ps, B, h => by
    obtain ⟨h1, h2⟩ := List.nodup_cons.1 h
    show (B (37 * t + i), b) :: track t (learn B t (some i) b) (ps.map fun x => (some x.1, x.2)) = (B (37 * t + i), b) :: _
    rw [track_apart t ps _ h2]
    congr 1
    apply List.map_congr_left
    intro x hx
    rw [learn_at, if_neg (fun e => h1 (by rw [← e]; exact List.mem_map.2 ⟨x, hx, rfl⟩))]
theorem learned_apart (t : Nat) : ∀ (ps : List (Nat × Bool)) (B : Chs), (ps.map Prod.fst).Nodup → ∀ j, learned t B (ps.map fun x => (some x.1, x.2)) (37 * t + j) = match ps.find? (fun x => x.1 == j) with | some x => nextC (B (37 * t + j)) x.2 | none => B (37 * t + j)
  | [], _, _, _ => rfl
  | (i, b) :: ps, B, h, j => by
    obtain ⟨h1, h2⟩ := List.nodup_cons.1 h
    show learned t (learn B t (some i) b) (ps.map fun x => (some x.1, x.2)) (37 * t + j) = _
    rw [learned_apart t ps _ h2 j, learn_at]
    by_cases hj : j = i
    · subst hj
      have hn : ps.find? (fun x => x.1 == j) = none := by
        rw [List.find?_eq_none]
        intro x hx hxe
        have hxe : x.1 = j := by simpa using hxe
        exact h1 (by rw [← hxe]; exact List.mem_map.2 ⟨x, hx, rfl⟩)
      rw [hn, List.find?_cons_of_pos (by simp)]
      simp
    · rw [if_neg hj, List.find?_cons_of_neg (by simp; omega)]
/-- One time: the chances of its bits. -/
def again (cs : List (Nat × Bool)) : List (Nat × Bool) := cs.map fun x => (nextC x.1 x.2, x.2)
theorem track_again (t : Nat) (ps : List (Nat × Bool)) (B : Chs) (h : (ps.map Prod.fst).Nodup) :
    track t (learned t B (ps.map fun x => (some x.1, x.2))) (ps.map fun x => (some x.1, x.2)) = again (track t B (ps.map fun x => (some x.1, x.2))) := by
  rw [track_apart t ps _ h, track_apart t ps _ h, again, List.map_map]
  apply List.map_congr_left
  intro x hx
  rw [learned_apart t ps B h]
  have : ps.find? (fun y => y.1 == x.1) = some x := by
    obtain ⟨y, hy⟩ : ∃ y, ps.find? (fun y => y.1 == x.1) = some y := by
      cases hf : ps.find? (fun y => y.1 == x.1) with
      | some y => exact ⟨y, rfl⟩
      | none => exact absurd (List.find?_eq_none.1 hf x hx) (by simp)
    have h1 := List.mem_of_find?_eq_some hy
    have h2 : y.1 = x.1 := by simpa using List.find?_some hy
    rw [hy]
    congr 1
    have := List.pairwise_map.1 (List.nodup_iff_pairwise_ne.1 h)
    rcases Classical.em (y = x) with hne | hne
    · exact hne
    exfalso
    rcases List.mem_iff_getElem.1 h1 with ⟨a, ha, rfl⟩
    rcases List.mem_iff_getElem.1 hx with ⟨b, hb, rfl⟩
    have hab : a ≠ b := fun e => hne (by subst e; rfl)
    rw [List.pairwise_iff_getElem] at this
    rcases Nat.lt_or_gt_of_ne hab with hl | hl
    · exact this a b ha hb hl h2
    · exact this b a hb ha hl h2.symm
  rw [this]
  rfl

/-- How long, how wide: without the number. -/
def runBits : List (Nat × Bool) → Nat × Nat → Nat × Nat
  | [], s => s
  | (c, b) :: l, (r, n) =>
    let w := if b then r - bnd r c else bnd r c
    if w < 16777216 then runBits l (w * 256, n + 1) else runBits l (w, n)
theorem runBits_puts : ∀ (l : List (Nat × Bool)) (e : Enc), runBits l (e.r, e.n) = ((puts e l).r, (puts e l).n)
  | [], e => rfl
  | (c, b) :: l, e => by
    have h := runBits_puts l (encPut e c b)
    show _ = ((puts (encPut e c b) l).r, (puts (encPut e c b) l).n)
    rw [← h]
    rw [show runBits ((c, b) :: l) (e.r, e.n) = (let w := if b then e.r - bnd e.r c else bnd e.r c; if w < 16777216 then runBits l (w * 256, e.n + 1) else runBits l (w, e.n)) from rfl]
    unfold encPut encScale encBit
    cases b <;> simp only [if_true, if_false, Bool.false_eq_true] <;> split <;> rfl
def runAgain : Nat → List (Nat × Bool) → Nat × Nat → List (Nat × Bool) × Nat × Nat
  | 0, cs, s => (cs, s)
  | k + 1, cs, s => runAgain k (again cs) (runBits cs s)
def evens (ps : List (Nat × Bool)) : List (Nat × Bool) := ps.map fun x => (1024, x.2)
def learnsOk (ps : List (Nat × Bool)) : Bool :=
  let a := runAgain 100 (evens ps) (4294967295, 4)
  let b := runAgain 100 a.1 a.2
  decide (b.2.2 - a.2.2 ≤ a.2.2 / 2 + 2)
/-- The places of a small number's bits. -/
def smallEvs (v : Nat) : List (Nat × Bool) := (numEvs v).filterMap fun x => x.1.map fun i => (i, x.2)
theorem small_evs : ∀ v, v < 15 → (smallEvs v).map (fun x => (some x.1, x.2)) = numEvs v ∧ ((smallEvs v).map Prod.fst).Nodup := by decide +kernel
theorem small_learns : ∀ v, v < 15 → learnsOk (smallEvs v) = true := by decide +kernel

theorem runAgain_succ : ∀ (k : Nat) (cs : List (Nat × Bool)) (s : Nat × Nat), runAgain (k + 1) cs s = (again (runAgain k cs s).1, runBits (runAgain k cs s).1 (runAgain k cs s).2)
  | 0, _, _ => rfl
  | k + 1, cs, s => runAgain_succ k (again cs) (runBits cs s)
theorem runAgain_add : ∀ (j k : Nat) (cs : List (Nat × Bool)) (s : Nat × Nat), runAgain (k + j) cs s = runAgain j (runAgain k cs s).1 (runAgain k cs s).2
  | 0, _, _, _ => rfl
  | j + 1, k, cs, s => by
    rw [show k + (j + 1) = (k + j) + 1 by omega, runAgain_succ, runAgain_add j k, runAgain_succ j]
/-- A number put again and again by a new book. -/
def timesN (t : Nat) (l : List Ev) : Nat → Chs × Enc
  | 0 => (newBook, encNew)
  | k + 1 => (learned t (timesN t l k).1 l, puts (timesN t l k).2 (track t (timesN t l k).1 l))
theorem timesN_fine (t : Nat) (l : List Ev) : ∀ k, FineB (timesN t l k).1 ∧ (timesN t l k).2.Ok
  | 0 => ⟨newBook_fine, encNew_ok⟩
  | k + 1 => ⟨learned_fine t l (timesN_fine t l k).1, puts_ok (timesN_fine t l k).2 (track_rights t l (timesN_fine t l k).1)⟩
theorem timesN_n (t : Nat) (l : List Ev) : ∀ k, (timesN t l k).2.n ≤ 4 + k * l.length
  | 0 => by show 4 ≤ _; omega
  | k + 1 => by
    have h1 := timesN_n t l k
    have h2 := puts_n (track t (timesN t l k).1 l) (timesN t l k).2
    rw [track_length] at h2
    show (puts (timesN t l k).2 (track t (timesN t l k).1 l)).n ≤ _
    rw [Nat.add_mul]
    omega
theorem puts_le (l : List (Nat × Bool)) (e : Enc) : e.n ≤ (puts e l).n := by
  induction l generalizing e with
  | nil => exact Nat.le_refl _
  | cons a l ih => exact Nat.le_trans (encPut_n e a.1 a.2).1 (ih _)
theorem runAgain_times (t : Nat) (ps : List (Nat × Bool)) (h : (ps.map Prod.fst).Nodup) : ∀ k,
    runAgain k (evens ps) (4294967295, 4) = (track t (timesN t (ps.map fun x => (some x.1, x.2)) k).1 (ps.map fun x => (some x.1, x.2)), (timesN t (ps.map fun x => (some x.1, x.2)) k).2.r, (timesN t (ps.map fun x => (some x.1, x.2)) k).2.n)
  | 0 => by
    show (evens ps, 4294967295, 4) = (track t newBook _, _, _)
    rw [track_apart t ps newBook h]
    rfl
  | k + 1 => by
    rw [runAgain_succ, runAgain_times t ps h k]
    simp only
    rw [runBits_puts, ← track_again t ps _ h]
    rfl
theorem learns {v : Nat} (hv : v < 15) (t : Nat) : (timesN t (numEvs v) 200).2.n - (timesN t (numEvs v) 100).2.n ≤ (timesN t (numEvs v) 100).2.n / 2 + 2 := by
  obtain ⟨h1, h2⟩ := small_evs v hv
  have h3 := small_learns v hv
  have h100 := runAgain_times t (smallEvs v) h2 100
  have h200 := runAgain_times t (smallEvs v) h2 200
  rw [show (200 : Nat) = 100 + 100 from rfl, runAgain_add] at h200
  rw [h1] at h100 h200
  unfold learnsOk at h3
  simp only [decide_eq_true_eq] at h3
  rw [h200, h100] at h3
  exact h3
end Go.Proofs.Ytendcmdpmohacaa

/-
  Contracts of the small functions of package bits (isWidth, toWhole, ones); conditions: the numbers lie in the ranges that are named.
-/
namespace Go.Proofs.Ytendcmdpmohacaa
open Go.RowKit

theorem ones_num (k : Nat) (h : k ≤ 63) : IntKind.u64.wrap (IntKind.u64.wrap (2 ^ k) - 1) = ((2 ^ k - 1 : Nat) : Int) := by
  have h1 : 2 ^ k ≤ 2 ^ 63 := Nat.pow_le_pow_right (by omega) h
  have h2 : 1 ≤ 2 ^ k := Nat.one_le_two_pow
  have e : ((2 : Int) ^ k) = ((2 ^ k : Nat) : Int) := by simp
  rw [e, IntKind.wrap_u64, IntKind.wrap_u64]
  omega

end Go.Proofs.Ytendcmdpmohacaa

/-
  Memory: what a call leaves alone. No program text here.
-/
namespace Go.Proofs.Ytendcmdpmohacaa
open Go.RowKit

/-- w' is w but for the blocks S and new blocks. -/
structure Fr (S : List Nat) (w w' : World) : Prop where
  os : w'.os = w.os
  tape : w'.tape = w.tape
  output : w'.output = w.output
  size : w.heap.size ≤ w'.heap.size
  block : ∀ k, k < w.heap.size → k ∉ S → w'.heap[k]? = w.heap[k]?

/-- A byte in a cell. -/
def B8 (x : UInt8) : Value := .int .u8 (x.toNat : Int)

/-- Block g is just the cells cs, of which none is frozen. -/
structure Blk (w : World) (g : Nat) (t : TypeId) (cs : Array Value) : Prop where
  here : w.heap[g]? = some (.cells cs t (0, 0))

section
variable {S S' : List Nat} {w w' a b c : World}
theorem Fr.refl (S : List Nat) (w : World) : Fr S w w := ⟨rfl, rfl, rfl, Nat.le_refl _, fun _ _ _ => rfl⟩
theorem Fr.trans (h : Fr S a b) (k : Fr S' b c) (hs : ∀ x ∈ S', x ∈ S ∨ a.heap.size ≤ x) : Fr S a c :=
  ⟨k.os.trans h.os, k.tape.trans h.tape, k.output.trans h.output, Nat.le_trans h.size k.size, fun i hi hn =>
    (k.block i (Nat.lt_of_lt_of_le hi h.size) (fun hm => by rcases hs i hm with h1 | h1; exact hn h1; omega)).trans (h.block i hi hn)⟩
theorem Fr.mono (h : Fr S a b) (hs : ∀ x ∈ S, x ∈ S' ∨ a.heap.size ≤ x) : Fr S' a b := (Fr.refl S' a).trans h hs
theorem Fr.drew (h : Fr S a w) : Fr S a w.drew := ⟨h.os, h.tape, h.output, h.size, h.block⟩
theorem Fr.drewN (h : Fr S a w) (n : Nat) : Fr S a (w.drewN n) := ⟨h.os, h.tape, h.output, h.size, h.block⟩
theorem Fr.alloc (h : Fr S a w) (o : Obj) : Fr S a (w.alloc o) :=
  h.trans (S' := []) ⟨rfl, rfl, rfl, by simp, fun k hk _ => Below.heap_alloc _ _ _ hk⟩ (by simp)
theorem Fr.setCell (h : Fr S a w) {p : Addr} (hp : p.block ∈ S ∨ a.heap.size ≤ p.block) (u : Value) : Fr S a (w.setCell p u) :=
  h.trans (S' := [p.block]) ⟨rfl, rfl, rfl, by simp [World.setCell], fun k _ hn => Below.heap_setCell _ _ _ _ (by simpa using hn)⟩ (by simpa using hp)
theorem Fr.grown (h : Fr S a w) {row : Option Nat} (hg : w.grownBy w' row) (hr : ∀ k, row = some k → k ∈ S ∨ a.heap.size ≤ k) : Fr S a w' :=
  h.trans (S' := row.toList) ⟨hg.os, hg.tape, hg.output, hg.size, fun k hk hn => hg.block k hk (by rintro rfl; simp at hn)⟩ (by
    intro x hx; cases row with
    | none => simp at hx
    | some k => simp at hx; subst hx; exact hr _ rfl)
theorem Fr.of_below (h : Below w.heap.size w w') (S : List Nat) : Fr S w w' := ⟨h.os, h.tape, h.output, h.size, fun k hk _ => h.block k hk⟩
theorem Fr.below {B : Nat} (h : Fr S w w') (hS : ∀ x ∈ S, B ≤ x) (hB : B ≤ w.heap.size) : Below B w w' :=
  ⟨h.os, h.tape, h.output, h.size, fun k hk => h.block k (by omega) (fun hm => by have := hS k hm; omega)⟩
theorem Fr.cell (h : Fr S w w') {p : Addr} (hp : p.block < w.heap.size) (hn : p.block ∉ S) : w'.cell? p = w.cell? p := World.cell?_of_block (h.block p.block hp hn)
theorem Fr.frozen (h : Fr S w w') {p : Addr} (hp : p.block < w.heap.size) (hn : p.block ∉ S) : w'.frozen? p = w.frozen? p := World.frozen?_of_block (h.block p.block hp hn)
end

section
variable {w w' : World} {g : Nat} {t : TypeId} {cs : Array Value}
theorem Blk.lt (h : Blk w g t cs) : g < w.heap.size := (Array.getElem?_eq_some_iff.1 h.here).1
theorem Blk.move (h : Blk w g t cs) (e : w'.heap[g]? = w.heap[g]?) : Blk w' g t cs := ⟨by rw [e, h.here]⟩
theorem Blk.cell (h : Blk w g t cs) (i : Nat) : w.cell? ⟨g, i, none⟩ = cs[i]? := by simp [World.cell?, h.here]
theorem Blk.frozen (h : Blk w g t cs) (i : Nat) : w.frozen? ⟨g, i, none⟩ = false := by simp [World.frozen?, h.here]
theorem Blk.new (w : World) (t : TypeId) (cs : Array Value) : Blk (w.alloc (.cells cs t)) w.heap.size t cs := ⟨heap_alloc_new w _⟩
theorem Blk.drew (h : Blk w g t cs) : Blk w.drew g t cs := ⟨h.here⟩
theorem Blk.drewN (h : Blk w g t cs) (n : Nat) : Blk (w.drewN n) g t cs := ⟨h.here⟩
theorem Blk.alloc (h : Blk w g t cs) (o : Obj) : Blk (w.alloc o) g t cs := h.move (Below.heap_alloc w o g h.lt)
theorem Blk.far (h : Blk w g t cs) {p : Addr} (hp : g ≠ p.block) (u : Value) : Blk (w.setCell p u) g t cs := h.move (Below.heap_setCell w p u g hp)
theorem Blk.set_ (h : Blk w g t cs) (i : Nat) (u : Value) : Blk (w.setCell ⟨g, i, none⟩ u) g t (cs.setIfInBounds i u) :=
  ⟨by simp only [World.setCell, Array.getElem?_modify, h.here]; rfl⟩
theorem Blk.fr {S : List Nat} (h : Blk w g t cs) (hf : Fr S w w') (hg : g ∉ S) : Blk w' g t cs := h.move (hf.block g h.lt hg)
end

/-- The slice value v holds the cells xs, in a row of its own (or it is nil). -/
def Own (w : World) (e : TypeId) (v : Value) (xs : List Value) : Prop := w.ownsRow 0 e 1 v xs.length xs

section
variable {w w' : World} {e : TypeId} {v : Value} {xs : List Value} {S : List Nat}
theorem Own.lt (h : Own w e v xs) : ∀ k, v.ownBlock = some k → k < w.heap.size := fun k hk => (World.ownsRow.lt h k hk).2
theorem Own.fr (h : Own w e v xs) (hf : Fr S w w') (hn : ∀ k, v.ownBlock = some k → k ∉ S) : Own w' e v xs := by
  refine ⟨h.1, ?_⟩
  rcases h.2 with h0 | ⟨g, cap, cur, rfl, hb, hgg, rest⟩
  · exact .inl h0
  · refine .inr ⟨g, cap, cur, rfl, hb, ?_, rest⟩
    rw [hf.block g (Array.getElem?_eq_some_iff.1 hgg).1 (hn g rfl)]
    exact hgg
theorem Own.form (h : Own w e v xs) : (v = .slice none 0 0 ∧ xs = []) ∨ ∃ g cap cur, v = .slice (some ⟨g, 0, none⟩) xs.length cap ∧ Blk w g e cur ∧ xs.length ≤ cap ∧ cap ≤ maxLen ∧ cur.size = cap ∧ cur.toList.take xs.length = xs := by
  rcases h.2 with ⟨h1, h2⟩ | ⟨g, cap, cur, h1, _, h3, h4, h5, h6, h7⟩
  · exact .inl ⟨h1, by simpa using h2⟩
  · exact .inr ⟨g, cap, cur, h1, ⟨h3⟩, h4, h5, by simpa using h6, by simpa using h7⟩
theorem Own.nil (w : World) (e : TypeId) : Own w e (.slice none 0 0) [] := World.ownsRow_nil w 0 e 1
theorem Own.drew (h : Own w e v xs) : Own w.drew e v xs := h
theorem Own.drewN (h : Own w e v xs) (n : Nat) : Own (w.drewN n) e v xs := h
theorem Own.alloc (h : Own w e v xs) (o : Obj) : Own (w.alloc o) e v xs := World.ownsRow.alloc h o
theorem Own.len_le (h : Own w e v xs) : xs.length ≤ maxLen := by
  rcases h.form with ⟨_, rfl⟩ | ⟨g, cap, cur, _, _, h1, h2, _⟩
  · simp
  · omega
theorem Own.slice {A : Option Addr} {n c : Nat} (h : Own w e (.slice A n c) xs) : n = xs.length := by
  rcases h.form with ⟨h1, rfl⟩ | ⟨g, cap, cur, h1, _⟩
  · injection h1
  · injection h1
theorem Own.cell {A : Option Addr} {n c : Nat} (h : Own w e (.slice A n c) xs) {j : Nat} (hj : j < xs.length) : ∃ g, A = some ⟨g, 0, none⟩ ∧ w.cell? ⟨g, j, none⟩ = xs[j]? ∧ w.frozen? ⟨g, j, none⟩ = false ∧ n = xs.length ∧ n ≤ c := by
  rcases h.form with ⟨h1, rfl⟩ | ⟨g, cap, cur, h1, hb, hc, _, hs, ht⟩
  · simp at hj
  · injection h1 with e1 e2 e3
    subst e1 e2 e3
    refine ⟨g, rfl, ?_, hb.frozen j, rfl, hc⟩
    rw [hb.cell, ← ht, List.getElem?_take, if_pos (by omega)]
    simp
theorem Own.at_ {g n c : Nat} (h : Own w e (.slice (some ⟨g, 0, none⟩) n c) xs) {j : Nat} (hj : j < xs.length) : w.cell? ⟨g, j, none⟩ = xs[j]? ∧ w.frozen? ⟨g, j, none⟩ = false ∧ g < w.heap.size := by
  obtain ⟨g', h1, h2, h3, -, -⟩ := h.cell hj
  injection h1 with h1
  injection h1 with h1
  subst h1
  exact ⟨h2, h3, h.lt g rfl⟩
theorem Own.last {i : Nat} (h : Own w e v xs) (hl : xs.length = i + 1) : ∃ g cap, v = .slice (some ⟨g, 0, none⟩) (i + 1) cap ∧ i + 1 ≤ cap ∧ w.cell? ⟨g, i, none⟩ = xs[i]? ∧ w.frozen? ⟨g, i, none⟩ = false ∧ g < w.heap.size := by
  rcases h.form with ⟨h1, rfl⟩ | ⟨g, cap, cur, rfl, hb, hc, _, hs, ht⟩
  · simp at hl
  · refine ⟨g, cap, by rw [hl], by omega, ?_, hb.frozen i, hb.lt⟩
    rw [hb.cell, ← ht, List.getElem?_take, if_pos (by omega)]
    simp
theorem Own.set {g n c : Nat} (h : Own w e (.slice (some ⟨g, 0, none⟩) n c) xs) (j : Nat) (u : Value) : Own (w.setCell ⟨g, j, none⟩ u) e (.slice (some ⟨g, 0, none⟩) n c) (xs.set j u) := by
  have hn := h.slice
  subst hn
  have := (World.ownsRow.stored h j u).1
  simpa [Own] using this
end


/-- The slice value src reads as the cells xs (nil let in). -/
def Src (w : World) (src : Value) (xs : List Value) : Prop :=
  (src = .slice none 0 0 ∧ xs = []) ∨ ∃ ad c, src = .slice (some ad) xs.length c ∧ xs.length ≤ c ∧ ∀ j u, xs[j]? = some u → w.cell? (ad.add j) = some u

/-- What was written is one slice's own row, or there is a new one. -/
def Own1 (v v' : Value) (w w' : World) : Prop := Fr v.ownBlock.toList w w' ∧ (v'.ownBlock = v.ownBlock ∨ ∃ g, v'.ownBlock = some g ∧ w.heap.size ≤ g)

theorem not_own {v : Value} {p : Nat} (h : v.ownBlock ≠ some p) : p ∉ v.ownBlock.toList := by
  cases hv : v.ownBlock with
  | none => simp
  | some k => rw [hv] at h; simp at h ⊢; omega

theorem add0 (g j : Nat) : (⟨g, 0, none⟩ : Addr).add j = ⟨g, j, none⟩ := by unfold Addr.add; split <;> simp_all

theorem Own.src {w : World} {e : TypeId} {v : Value} {xs : List Value} (h : Own w e v xs) : Src w v xs := by
  rcases h.form with h0 | ⟨g, cap, cur, h1, hb, h2, h3, h4, h5⟩
  · exact .inl h0
  · refine .inr ⟨⟨g, 0, none⟩, cap, h1, h2, fun j u hu => ?_⟩
    rw [add0, hb.cell]
    rw [← h5, List.getElem?_take] at hu
    split at hu
    · simpa using hu
    · cases hu

theorem addr_block (a : Addr) (n : Nat) : (a.add n).block = a.block := by by_cases h : n = 0 <;> simp [Addr.add, h]

theorem Src.fr {w w' : World} {S : List Nat} {src : Value} {xs : List Value} (h : Src w src xs) (hf : Fr S w w') (hS : ∀ k, src.ownBlock = some k → k ∉ S) : Src w' src xs := by
  rcases h with h | ⟨ad, c, rfl, hle, hc⟩
  · exact .inl h
  · refine .inr ⟨ad, c, rfl, hle, fun j u hu => ?_⟩
    have h1 := hc j u hu
    have h2 := World.block_lt_of_cell? w _ h1
    rw [hf.cell h2 (by rw [addr_block]; exact hS _ rfl)]
    exact h1
theorem Src.fr0 {w w' : World} {src : Value} {xs : List Value} (h : Src w src xs) (hf : Fr [] w w') : Src w' src xs := h.fr hf (by simp)

theorem addr_add_add (a : Addr) (m n : Nat) : (a.add m).add n = a.add (m + n) := by
  rcases Nat.eq_zero_or_pos m with rfl | hm
  · simp [Addr.add]
  · rcases Nat.eq_zero_or_pos n with rfl | hn
    · simp [Addr.add]
    · have h1 : m ≠ 0 := by omega
      have h2 : n ≠ 0 := by omega
      simp [Addr.add, h1, h2, Nat.add_assoc]

theorem Src.drop {w : World} {A : Option Addr} {n c k : Nat} {xs : List Value} (h : Src w (.slice A n c) xs) (hk : k ≤ n) :
    Src w (.slice (if c = k then A else A.map (·.add k)) (n - k) (c - k)) (xs.drop k) := by
  rcases h with ⟨h1, rfl⟩ | ⟨ad, c', h1, hle, hc⟩
  · injection h1 with e1 e2 e3
    subst e1 e2 e3
    obtain rfl : k = 0 := by omega
    exact .inl ⟨by simp, by simp⟩
  · injection h1 with e1 e2 e3
    subst e1 e2 e3
    by_cases hk2 : c = k
    · rw [if_pos hk2]
      refine .inr ⟨ad, c - k, by simp, by simp; omega, fun j u hu => ?_⟩
      rw [List.drop_of_length_le (by omega)] at hu
      cases hu
    · rw [if_neg hk2]
      refine .inr ⟨ad.add k, c - k, by simp, by simp; omega, fun j u hu => ?_⟩
      rw [List.getElem?_drop] at hu
      rw [addr_add_add]
      exact hc (k + j) u hu

theorem Src.drewN {w : World} {src : Value} {xs : List Value} (h : Src w src xs) (n : Nat) : Src (w.drewN n) src xs := h
theorem Src.drew {w : World} {src : Value} {xs : List Value} (h : Src w src xs) : Src w.drew src xs := h

theorem Src.one {w : World} {g : Nat} {u : Value} (h : w.cell? ⟨g, 0, none⟩ = some u) : Src w (.slice (some ⟨g, 0, none⟩) 1 1) [u] := by
  refine .inr ⟨⟨g, 0, none⟩, 1, rfl, Nat.le_refl _, fun j u' hu => ?_⟩
  cases j with
  | zero => rw [add0]; simp at hu; subst hu; exact h
  | succ j => simp at hu

theorem run_append_mine {P : Program} (w : World) (t ty e : TypeId) (i : TypeInfo) (z : Value) (bytes : Nat) (ht : P.underlying t = some (.slice e)) (hi : P.info? e = some i) (hz : i.zero = some z)
    (hsize : i.size = 1) (hby : i.bytes = bytes) (hzs : z.cells.size = 1) (v : Value) (xs : List Value) (hown : Own w e v xs) (src : Value) (news : List Value) (hs : Src w src news) (h1 : ∀ u ∈ news, u.oneCell' = true)
    (h63 : xs.length + news.length ≤ maxLen) (hbytes : (xs.length + news.length) * bytes ≤ 140737488355328) :
    ∃ v' w', (Builtin.append_ #[t, t] ty #[v, src]).run P w = .ok v' w' ∧ Own w' e v' (xs ++ news) ∧ Own1 v v' w w' := by
  rcases hs with ⟨rfl, rfl⟩ | ⟨ad, c, rfl, -, hn⟩
  · exact ⟨v, w, run_append_owned_none w 0 t ty e i 1 ht hi v _ xs hown, by simpa using hown, Fr.refl _ _, .inl rfl⟩
  · obtain ⟨v', w', hr, h2, h3, h4⟩ := run_append_own (P := P) w 0 t ty e i z 1 bytes ht hi hz hsize hby hzs (by omega) v xs.length xs hown ad news.length c news (by simp) hn h1 h63 hbytes (by omega)
    have hO : Own w' e v' (xs ++ news) := by unfold Own; simpa using h2
    have hF : Fr v.ownBlock.toList w w' := (Fr.refl _ _).grown h3 (fun k hk => .inl (by simp [hk]))
    refine ⟨v', w', hr, hO, hF, ?_⟩
    rcases hown.form with ⟨rfl, rfl⟩ | ⟨g, cap, cur, rfl, hb, hc1, hc2, hc3, hc4⟩
    · obtain ⟨v2, w2, hr2, h22, -, -⟩ := run_append_own (P := P) w w.heap.size t ty e i z 1 bytes ht hi hz hsize hby hzs (by omega) (.slice none 0 0) 0 [] (World.ownsRow_nil w _ e 1) ad news.length c news (by simp) hn h1 (by simpa using h63) (by simpa using hbytes) (Nat.le_refl _)
      rw [hr] at hr2
      injection hr2 with e1 e2
      subst e1 e2
      cases hv : v'.ownBlock with
      | none => exact .inl rfl
      | some k => exact .inr ⟨k, rfl, (h22.lt k hv).1⟩
    · by_cases hroom : xs.length + news.length ≤ cap
      · have hr2 := run_append_room (P := P) w t ty e i ht hi g xs.length cap cur hb.here ad news.length c news (by simp [hsize]) hn h1 hroom (by simp [hsize]; omega)
        rw [hr] at hr2
        injection hr2 with e1 e2
        subst e1
        exact .inl rfl
      · have hcell : ∀ j u, xs[j]? = some u → w.cell? ((⟨g, 0, none⟩ : Addr).add j) = some u := World.ownsRow.cells hown (g := g) rfl
        have hr2 := run_append_grow (P := P) w t ty e i z ht hi hz ⟨g, 0, none⟩ xs.length cap xs (by simp [hsize]) hcell ad news.length c news (by simp [hsize]) hn (by omega) (by simp only [maxLen] at h63; omega) (growslice_fits (by omega) (by rw [hby]; exact hbytes))
        rw [hr] at hr2
        injection hr2 with e1 e2
        subst e1
        exact .inr ⟨_, rfl, Nat.le_refl _⟩

theorem wpList_append_mine {P : Program} {w : World} {ops : Array Oper} {rest : List Oper} {o : Oper} {a : Act} {Q : Exit → Act → World → Prop} (s x : Operand) (t e : TypeId) (i : TypeInfo) (z : Value) (bytes : Nat)
    (hgd : o.guard = none) (ho : o.op = .call { callee := .builtin .append, args := #[s, x], argTypes := #[t, t] })
    (ht : P.underlying t = some (.slice e)) (hi : P.info? e = some i) (hz : i.zero = some z)
    (hsize : i.size = 1) (hby : i.bytes = bytes) (hzs : z.cells.size = 1) (v : Value) (xs : List Value) (src : Value) (news : List Value) (hv : a.eval s = v) (hsv : a.eval x = src)
    (hown : Own w e v xs) (hs : Src w src news) (h1 : ∀ u ∈ news, u.oneCell' = true)
    (h63 : xs.length + news.length ≤ maxLen) (hbytes : (xs.length + news.length) * bytes ≤ 140737488355328)
    (h : ∀ v' w', Own w' e v' (xs ++ news) → Own1 v v' w w' → wpList P ops Q rest (a.put o.dst v') w') : wpList P ops Q (o :: rest) a w := by
  refine wpList_plain hgd fun _ hK => ?_
  obtain ⟨v', w', hr, h2, h3⟩ := run_append_mine (P := P) w t o.type e i z bytes ht hi hz hsize hby hzs v xs hown src news hs h1 h63 hbytes
  unfold Oper.wp execOp
  simp only [ho, resolve, invoke, builtin, Sem.run_bind, Sem.run_pure, Result.andThen_ok, List.map_toArray, List.map_cons, List.map_nil, hv, hsv, hr]
  exact hK _ _ (h v' w' h2 h3)

theorem wp_append_mine {P : Program} {w : World} {o : Oper} {a : Act} {K : Act → World → Prop} {Q : Exit → Act → World → Prop} (s x : Operand) (t e : TypeId) (i : TypeInfo) (z : Value) (bytes : Nat)
    (ho : o.op = .call { callee := .builtin .append, args := #[s, x], argTypes := #[t, t] })
    (ht : P.underlying t = some (.slice e)) (hi : P.info? e = some i) (hz : i.zero = some z)
    (hsize : i.size = 1) (hby : i.bytes = bytes) (hzs : z.cells.size = 1) (v : Value) (xs : List Value) (src : Value) (news : List Value) (hv : a.eval s = v) (hsv : a.eval x = src)
    (hown : Own w e v xs) (hs : Src w src news) (h1 : ∀ u ∈ news, u.oneCell' = true)
    (h63 : xs.length + news.length ≤ maxLen) (hbytes : (xs.length + news.length) * bytes ≤ 140737488355328)
    (h : ∀ A c w', Own w' e (.slice A (xs.length + news.length) c) (xs ++ news) → Own1 v (.slice A (xs.length + news.length) c) w w' → K (a.put o.dst (.slice A (xs.length + news.length) c)) w') : o.wp P a w K Q := by
  obtain ⟨v', w', hr, h2, h3⟩ := run_append_mine (P := P) w t o.type e i z bytes ht hi hz hsize hby hzs v xs hown src news hs h1 h63 hbytes
  obtain ⟨A, c, rfl⟩ : ∃ A c, v' = .slice A (xs.length + news.length) c := by
    rcases h2.form with ⟨rfl, h0⟩ | ⟨g, cap, cur, rfl, -⟩
    · exact ⟨_, _, by have := congrArg List.length h0; simp only [List.length_append, List.length_nil] at this; rw [this]⟩
    · exact ⟨_, _, by rw [List.length_append]⟩
  unfold Oper.wp execOp
  simp only [ho, resolve, invoke, builtin, Sem.run_bind, Sem.run_pure, Result.andThen_ok, List.map_toArray, List.map_cons, List.map_nil, hv, hsv, hr]
  exact h A c w' h2 h3

theorem own_of_setRow {w : World} {e : TypeId} {g cap : Nat} {cur : Array Value} {n : Nat} (hb : Blk w g e cur) (hn : n ≤ cap) (hm : cap ≤ maxLen) (zs : List Value) (hz : zs.length = cap) :
    Own (w.setRow g zs.toArray) e (.slice (some ⟨g, 0, none⟩) n cap) (zs.take n) := by
  have hl : (zs.take n).length = n := by simp; omega
  refine ⟨by simp, .inr ⟨g, cap, zs.toArray, by rw [hl], Nat.zero_le _, setRow_heap w g cur _ e _ hb.here, by rw [hl]; exact hn, hm, by simp [hz], ?_⟩⟩
  rw [hl]; simp

theorem wpList_copy_mine {P : Program} {w : World} {ops : Array Oper} {rest : List Oper} {o : Oper} {a : Act} {Q : Exit → Act → World → Prop} (d s : Operand) (t t' e : TypeId)
    (hgd : o.guard = none) (ho : o.op = .call { callee := .builtin .copy, args := #[d, s], argTypes := #[t, t'] })
    (ht : P.underlying t = some (.slice e)) (hsz : (P.info? e).map (·.size) = some 1) (v src : Value) (ys xs : List Value) (hv : a.eval d = v) (hsv : a.eval s = src)
    (hown : Own w e v ys) (hs : Src w src xs) (h1 : ∀ u ∈ xs, u.oneCell' = true)
    (h : ∀ w', Own w' e v (xs.take ys.length ++ ys.drop xs.length) → Fr v.ownBlock.toList w w' → wpList P ops Q rest (a.put o.dst (goInt (min xs.length ys.length : Nat))) w') : wpList P ops Q (o :: rest) a w := by
  by_cases h0 : xs.length = 0 ∨ ys.length = 0
  · have hres : xs.take ys.length ++ ys.drop xs.length = ys := by
      rcases h0 with h0 | h0
      · simp [List.eq_nil_of_length_eq_zero h0]
      · simp [List.eq_nil_of_length_eq_zero h0]
    have hmin : (min xs.length ys.length : Nat) = 0 := by omega
    have hk := h w (by rw [hres]; exact hown) (Fr.refl _ _)
    rw [hmin] at hk
    obtain ⟨dp, dc, rfl⟩ : ∃ dp dc, v = .slice dp ys.length dc := by
      rcases hown.form with ⟨rfl, rfl⟩ | ⟨g, cap, cur, rfl, -⟩
      · exact ⟨_, _, rfl⟩
      · exact ⟨_, _, rfl⟩
    obtain ⟨sp, sc, rfl⟩ : ∃ sp sc, src = .slice sp xs.length sc := by
      rcases hs with ⟨rfl, rfl⟩ | ⟨ad, c, rfl, -⟩
      · exact ⟨_, _, rfl⟩
      · exact ⟨_, _, rfl⟩
    exact wpList_copy_nothing hgd d s t t' ho e ht hsz dp sp _ dc _ sc hv hsv hmin hk
  · rcases hown.form with ⟨rfl, rfl⟩ | ⟨g, cap, cur, rfl, hb, hc, hm, hcs, hct⟩
    · simp at h0
    rcases hs with ⟨rfl, rfl⟩ | ⟨ad, c, rfl, -, hcell⟩
    · simp at h0
    have hl : (xs.take ys.length).length = Nat.min xs.length ys.length := by rw [List.length_take, Nat.min_comm]
    refine wpList_copy_own hgd d s t t' ho e ht hsz g 0 _ _ ad _ _ hv hsv cur e hb.here (xs.take ys.length) hl ?_ ?_ ?_ ?_
    · intro j u hu
      refine hcell j u ?_
      rw [List.getElem?_take] at hu
      split at hu
      · exact hu
      · cases hu
    · simp; omega
    · exact fun u hu => h1 u (List.mem_of_mem_take hu)
    · have hO := own_of_setRow (n := ys.length) hb hc hm (cur.toList.take 0 ++ (xs.take ys.length ++ cur.toList.drop (0 + (xs.take ys.length).length))) (by simp; omega)
      have e1 : (cur.toList.take 0 ++ (xs.take ys.length ++ cur.toList.drop (0 + (xs.take ys.length).length))).take ys.length = xs.take ys.length ++ ys.drop xs.length := by
        simp only [List.take_zero, List.nil_append, Nat.zero_add, List.length_take]
        apply List.ext_getElem?
        intro j
        have hy : ∀ j, j < ys.length → cur[j]? = ys[j]? := fun j hj => by rw [← hct, List.getElem?_take, if_pos (by simpa using hj)]; simp
        simp only [List.getElem?_take, List.getElem?_append, List.length_take, List.getElem?_drop]
        by_cases hj : j < ys.length
        · by_cases hj2 : j < xs.length
          · have h3 : j < min ys.length xs.length := by omega
            simp [hj, h3]
          · have : ¬ j < min ys.length xs.length := by omega
            simp only [hj, if_true, this, if_false]
            rw [show xs.length + (j - min ys.length xs.length) = j by omega, show min ys.length xs.length + (j - min ys.length xs.length) = j by omega]
            simpa using hy j hj
        · simp only [hj, if_false]
          rw [if_neg (by omega), List.getElem?_eq_none (by omega)]
      rw [e1] at hO
      have := h _ hO ((Fr.refl _ _).grown (row := some g) ⟨rfl, rfl, rfl, by simp, fun k _ hk => setRow_other w g k _ (fun e => hk (by simp [e]))⟩ (fun k hk => .inl (by simpa [Value.ownBlock] using hk.symm)))
      have e2 : ((xs.take ys.length).length : Int) = ((min xs.length ys.length : Nat) : Int) := by simp [Nat.min_comm]
      rw [e2]
      exact this

theorem wpList_make_mine {P : Program} {w : World} {ops : Array Oper} {rest : List Oper} {o : Oper} {a : Act} {Q : Exit → Act → World → Prop} (l c : Operand) (t e : TypeId) (i : TypeInfo) (z : Value) (bytes : Nat) (kl kc : IntKind) (n : Nat)
    (hgd : o.guard = none) (hop : o.op = Op.makeSlice t l c) (h1 : P.underlying t = some (.slice e)) (h2 : P.info? e = some i) (h3 : i.zero = some z) (h4 : i.size = 1) (h5 : i.bytes = bytes) (h6 : z.cells = #[z])
    (hl : a.eval l = .int kl (n : Int)) (hc : a.eval c = .int kc (n : Int)) (b2 : bytes * n ≤ 281474976710656) (b3 : n ≤ maxLen)
    (h : ∀ w', Own w' e (.slice (some ⟨w.heap.size, 0, none⟩) n n) (List.replicate n z) → Fr [] w w' → w.heap.size < w'.heap.size → wpList P ops Q rest (a.put o.dst (.slice (some ⟨w.heap.size, 0, none⟩) n n)) w') : wpList P ops Q (o :: rest) a w := by
  refine wpList_make_full w hgd l c t hop 0 e i z 1 h1 h2 h3 h4 kl kc n n n hl hc rfl rfl (by rw [h5]; exact b2) b3 (Nat.zero_le _) fun w' hO hG => ?_
  have hO' : Own w' e (.slice (some ⟨w.heap.size, 0, none⟩) n n) (List.replicate n z) := by
    rw [h6, Nat.mul_one, toList_madeCells_one] at hO
    unfold Own
    rw [List.length_replicate]
    exact hO
  exact h w' hO' ((Fr.refl _ _).grown hG (fun k hk => by cases hk)) (hO'.lt _ rfl)

theorem Own.lit (w : World) (e : TypeId) (cs : Array Value) (n : Nat) (hn : cs.size = n) (hm : n ≤ maxLen) : Own (w.alloc (.cells cs e)) e (.slice (some ⟨w.heap.size, 0, none⟩) n n) cs.toList := by
  have h := World.ownsRow_lit (base := 0) (e := e) (size := 1) w cs n (Nat.zero_le _) hm (by omega)
  unfold Own
  rw [Array.length_toList, hn]
  exact h
end Go.Proofs.Ytendcmdpmohacaa

/-
  Contracts of bits.New, (*Writer).Len and (*Writer).Put: the writer that the pointer names has the bits L, and then L and the new ones; condition: L is no longer than 100000000000 bits.
-/
namespace Go.Proofs.Ytendcmdpmohacaa
open Go.RowKit

theorem shr_ne (a n : Nat) (h : 2 ^ n ≤ a) : ((a : Int) / 2 ^ n != 0) = true := by
  have h1 : 0 < a / 2 ^ n := Nat.div_pos h (Nat.two_pow_pos n)
  have e : (a : Int) / 2 ^ n = ((a / 2 ^ n : Nat) : Int) := by simp
  rw [e, bne_iff_ne]
  omega
theorem shr_eq (a n : Nat) (h : a < 2 ^ n) : ((a : Int) / 2 ^ n != 0) = false := by
  have e : (a : Int) / 2 ^ n = ((a / 2 ^ n : Nat) : Int) := by simp
  rw [e, Nat.div_eq_of_lt h]
  rfl

theorem and_ones (a m k fk : Nat) (ha : a < 18446744073709551616) (hk : fk + k ≤ 8) :
    ∃ z : Nat, z < 256 ∧ bits BinOp.and IntKind.u64 ((a : Int) / 2 ^ m) ((2 ^ k - 1 : Nat) : Int) = (z : Int) ∧ z = (a >>> m) % 2 ^ k ∧ z <<< fk < 256 := by
  have e : (a : Int) / 2 ^ m = ((a / 2 ^ m : Nat) : Int) := by simp
  have h0 : a / 2 ^ m ≤ a := Nat.div_le_self _ _
  have h1 : 2 ^ k ≤ 2 ^ 8 := Nat.pow_le_pow_right (by omega) (by omega)
  have h2 : (a / 2 ^ m) % 2 ^ k < 2 ^ k := Nat.mod_lt _ (Nat.two_pow_pos k)
  refine ⟨(a / 2 ^ m) % 2 ^ k, by omega, ?_, by rw [Nat.shiftRight_eq_div_pow], ?_⟩
  · rw [e, u64_and_nat _ _ (by omega) (by omega), Nat.and_two_pow_sub_one_eq_mod]
  · rw [Nat.shiftLeft_eq]
    have h3 : (a / 2 ^ m) % 2 ^ k * 2 ^ fk < 2 ^ k * 2 ^ fk := Nat.mul_lt_mul_of_pos_right h2 (Nat.two_pow_pos fk)
    have h4 : 2 ^ k * 2 ^ fk ≤ 2 ^ 8 := by rw [← Nat.pow_add]; exact Nat.pow_le_pow_right (by omega) (by omega)
    omega

theorem or_u8 (y z fk : Nat) (hy : y < 256) (hz : z <<< fk < 256) :
    bits BinOp.or IntKind.u8 (y : Int) ((z : Int) * 2 ^ fk % 256) = ((y ||| z <<< fk : Nat) : Int) ∧ (UInt8.ofNat (y ||| z <<< fk)).toNat = y ||| z <<< fk := by
  have h1 : y ||| z <<< fk < 2 ^ 8 := Nat.or_lt_two_pow (by omega) (by omega)
  have e : (z : Int) * 2 ^ fk % 256 = ((z <<< fk : Nat) : Int) := by
    have : ((z <<< fk : Nat) : Int) = (z : Int) * 2 ^ fk := by rw [Nat.shiftLeft_eq]; simp
    rw [← this]; exact Int.emod_eq_of_lt (Int.natCast_nonneg _) (Int.ofNat_lt.2 hz)
  refine ⟨by rw [e, u8_or_nat _ _ hy hz], ?_⟩
  simp only [UInt8.toNat_ofNat']
  exact Nat.mod_eq_of_lt h1

/-- What a call on the writer p, whose bytes lay at v, may have written. -/
def WFr (p : Nat) (v v' : Value) (w w' : World) : Prop := Fr (p :: v.ownBlock.toList) w w' ∧ (v'.ownBlock = v.ownBlock ∨ ∃ g, v'.ownBlock = some g ∧ w.heap.size ≤ g)

theorem WFr.app {p : Nat} {v v1 v2 : Value} {w0 w w3 : World} {o : Obj} (h : WFr p v v1 w0 w) (hG : Own1 v1 v2 (w.alloc o) w3) (u : Value) : WFr p v v2 w0 (w3.setCell ⟨p, 0, none⟩ u) := by
  obtain ⟨hf, hv⟩ := h
  obtain ⟨gf, gv⟩ := hG
  have hs := hf.size
  refine ⟨((hf.alloc o).trans gf ?_).setCell (.inl (by simp)) u, ?_⟩
  · intro x hx
    rcases hv with e | ⟨g, e, hg⟩
    · rw [e] at hx; exact .inl (List.mem_cons_of_mem _ hx)
    · rw [e] at hx; simp at hx; subst hx; exact .inr hg
  · rcases gv with e | ⟨g, e, hg⟩
    · rw [e]; exact hv
    · exact .inr ⟨g, e, by simp at hg; omega⟩

theorem info_u8 : (Try.prog.info? 5).map (fun i => (i.zero, i.size, i.bytes)) = some (some (.int .u8 0), 1, 1) := by kernel_rfl

/-- append onto bytes of the call's own. -/
theorem wp_append_u8 {w : World} {ops : Array Oper} {rest : List Oper} {o : Oper} {a : Act} {Q : Exit → Act → World → Prop} (s x : Operand) (v : Value) (xs : List UInt8) (src : Value) (news : List UInt8)
    (hgd : o.guard = none) (ho : o.op = .call { callee := .builtin .append, args := #[s, x], argTypes := #[45, 45] })
    (hv : a.eval s = v) (hsv : a.eval x = src) (hown : Own w 5 v (xs.map B8)) (hs : Src w src (news.map B8)) (hlen : xs.length + news.length ≤ 1000000000000)
    (h : ∀ v' w', Own w' 5 v' ((xs ++ news).map B8) → Own1 v v' w w' → wpList Try.prog ops Q rest (a.put o.dst v') w') : wpList Try.prog ops Q (o :: rest) a w := by
  obtain ⟨i, hi, hz, h1, h2⟩ := info_parts info_u8
  refine wpList_append_mine s x 45 5 i _ 1 hgd ho Try.underlying45 hi hz h1 h2 rfl v _ src _ hv hsv hown hs ?_ ?_ ?_ ?_
  · intro u hu
    obtain ⟨b, _, rfl⟩ := List.mem_map.1 hu
    rfl
  · simp only [List.length_map, maxLen]; omega
  · simp only [List.length_map]; omega
  · intro v' w' k1 k2
    exact h v' w' (by rw [List.map_append]; exact k1) k2

end Go.Proofs.Ytendcmdpmohacaa

/-
  Contracts of copied, (*Writer).Bytes and (*Writer).Align; conditions: the lengths are bounded as named.
-/
namespace Go.Proofs.Ytendcmdpmohacaa
open Go.RowKit

theorem B8_one (xs : List UInt8) : ∀ u ∈ xs.map B8, u.oneCell' = true := by
  intro u hu
  obtain ⟨b, _, rfl⟩ := List.mem_map.1 hu
  rfl

/-- A new row that holds the bytes xs. -/
def NewBytes (w : World) (xs : List UInt8) (e : Ending) (w' : World) : Prop :=
  ∃ c, e = .returned (.slice (some ⟨w.heap.size, 0, none⟩) xs.length c) ∧ Own w' 5 (.slice (some ⟨w.heap.size, 0, none⟩) xs.length c) (xs.map B8) ∧ Fr [] w w'

end Go.Proofs.Ytendcmdpmohacaa

/-
  append(x, make([]T, m)...) onto bytes of the call's own: a law that the library lacks. No program text here.
-/
namespace Go.Proofs.Ytendcmdpmohacaa
open Go.RowKit

theorem zeroCells_one (z : Value) (m : Nat) : Builtin.zeroCells #[z] m = (List.replicate m z).toArray := by
  apply Array.ext
  · simp [Builtin.zeroCells]
  · intro i h1 h2
    simp [Builtin.zeroCells, Nat.mod_one]

section
variable {P : Program}
theorem run_append_zeros (w : World) (t k ty e : TypeId) (i : TypeInfo) (z : Value) (bytes : Nat) (ht : P.underlying t = some (.slice e)) (hk : P.underlying k = some (.int .i64)) (hi : P.info? e = some i) (hz : i.zero = some z)
    (hsize : i.size = 1) (hby : i.bytes = bytes) (hzc : z.cells = #[z]) (hz1 : z.oneCell' = true) (v : Value) (xs : List Value) (hown : Own w e v xs) (m : Nat)
    (h63 : xs.length + m ≤ maxLen) (hbytes : (xs.length + m) * bytes ≤ 140737488355328) (hmb : m * bytes ≤ 281474976710656) :
    ∃ v' w', (Builtin.append_ #[t, k] ty #[v, .int .i64 (m : Int)]).run P w = .ok v' w' ∧ Own w' e v' (xs ++ List.replicate m z) ∧ Own1 v v' w w' := by
  subst hby
  have hml : m ≤ 9223372036854775807 := by simp only [maxLen] at h63; omega
  have hwr : IntKind.i64.wrap (m : Int) = (m : Int) := IntWalk.i64_in _ (by omega)
  have hneg : ¬ ((m : Int) < 0) := by omega
  have hmb' : ¬ ((281474976710656 : Int) < (m : Int) * (i.bytes : Int)) := by
    have : ((m * i.bytes : Nat) : Int) ≤ 281474976710656 := by omega
    rw [Int.natCast_mul] at this
    omega
  have hint : ∀ w, (asInt (.int .i64 (m : Int))).run P w = .ok (m : Int) w := fun _ => rfl
  have grown : ∀ (old : Nat), old < xs.length + m → Own (w.drew.alloc (.cells ((xs ++ List.replicate m z).toArray ++ Builtin.zeroCells z.cells (grownCap w (xs.length + m) old e - (xs.length + m))) e)) e
      (.slice (some ⟨w.heap.size, 0, none⟩) (xs.length + m) (grownCap w (xs.length + m) old e)) (xs ++ List.replicate m z) := by
    intro old ho
    have hge := grownCap_ge w (xs.length + m) old e
    have hcm : grownCap w (xs.length + m) old e ≤ maxLen := grownCap_le_maxLen w (xs.length + m) old e h63
    have hl : (xs ++ List.replicate m z).length = xs.length + m := by simp
    refine ⟨by simp, .inr ⟨w.heap.size, _, _, by rw [hl], Nat.zero_le _, heap_alloc_new w.drew _, by rw [hl]; exact hge, hcm, ?_, ?_⟩⟩
    · rw [hzc, zeroCells_one]; simp; omega
    · rw [hl, Array.toList_append, ← hl, Nat.mul_one]
      exact List.take_left
  rcases hown.form with ⟨rfl, rfl⟩ | ⟨g, cap, cur, rfl, hb, hc, hm, hcs, hct⟩
  · by_cases h0 : m = 0
    · have hint0 : ∀ w, (asInt (.int .i64 0)).run P w = .ok 0 w := fun _ => rfl
      have hw0 : IntKind.i64.wrap 0 = 0 := rfl
      subst h0
      refine ⟨.slice none 0 0, w, ?_, by simpa using Own.nil w e, Fr.refl _ _, .inl rfl⟩
      simp [Builtin.append_, run_underlying ht, run_underlying hk, sizeOf, typeInfo, hi, hint0, hw0]
    · have hr := grown 0 (by simpa using Nat.pos_of_ne_zero h0)
      simp only [List.length_nil, Nat.zero_add, List.nil_append] at hr hbytes
      have h48' : ¬ (281474976710656 < Builtin.nextslicecap m 0 * i.bytes) := by rw [nextslicecap_zero (by omega)]; omega
      have h63' : ¬ (9223372036854775807 < (m : Int)) := by omega
      refine ⟨_, _, ?_, by simpa using hr, ((Fr.refl _ w).drew).alloc _, .inr ⟨_, rfl, Nat.le_refl _⟩⟩
      simp [Builtin.append_, run_underlying ht, run_underlying hk, sizeOf, typeInfo, zeroValue, hi, hz, hsize, hint, hwr, hneg, hmb', h0, h63', h48', Question.forced, Builtin.firstCells, newRow, grownCap]
      congr 2
      rw [hzc, zeroCells_one, zeroCells_one]
      simp
  · have hx1 : (xs ++ List.replicate m z).length = xs.length + m := by simp
    by_cases h0 : m = 0
    · have hint0 : ∀ w, (asInt (.int .i64 0)).run P w = .ok 0 w := fun _ => rfl
      have hw0 : IntKind.i64.wrap 0 = 0 := rfl
      subst h0
      refine ⟨_, w, ?_, by simpa using hown, Fr.refl _ _, .inl rfl⟩
      simp [Builtin.append_, run_underlying ht, run_underlying hk, sizeOf, typeInfo, hi, hint0, hw0, hc, Addr.add_lit, storeCells]
    by_cases hroom : xs.length + m ≤ cap
    · have hst := run_storeCells_at P g xs.length e (List.replicate m z) 0 cur w hb.here (by simp; omega) (fun u hu => by rw [List.eq_of_mem_replicate hu]; exact hz1)
      simp only [Nat.add_zero] at hst
      refine ⟨.slice (some ⟨g, 0, none⟩) (xs.length + m) cap, w.setRow g (cur.toList.take xs.length ++ List.replicate m z ++ cur.toList.drop (xs.length + m)).toArray, ?_, ?_, ?_, .inl rfl⟩
      · simp [Builtin.append_, run_underlying ht, run_underlying hk, sizeOf, typeInfo, zeroValue, hi, hz, hsize, hint, hwr, hneg, hmb', h0, hroom, Addr.add_lit, hzc, zeroCells_one]
        rw [hst]
        simp
      · have h2 := own_of_setRow (n := xs.length + m) hb hroom hm (cur.toList.take xs.length ++ List.replicate m z ++ cur.toList.drop (xs.length + m)) (by simp; omega)
        rw [hct, List.take_append_of_le_length (by simp), ← hx1, List.take_length, hx1] at h2
        rw [hct]
        exact h2
      · exact ⟨rfl, rfl, rfl, by simp, fun j _ hj => setRow_other w g j _ (fun e => hj (by simp [Value.ownBlock, e]))⟩
    · have hr := grown cap (by omega)
      have h48' : ¬ (281474976710656 < Builtin.nextslicecap (xs.length + m) cap * i.bytes) := by have := growslice_fits (old := cap) (by omega) hbytes; omega
      have h63' : ¬ (9223372036854775807 < (xs.length : Int) + (m : Int)) := by simp only [maxLen] at h63; omega
      have hfo := run_firstCells_some (P := P) w.drew 1 xs.length ⟨g, 0, none⟩ xs.length cap xs (by simp) (fun j u hu => by
        rw [World.cell?_drew, add0, hb.cell]
        rw [← hct, List.getElem?_take] at hu
        split at hu
        · simpa using hu
        · cases hu)
      refine ⟨_, _, ?_, hr, ((Fr.refl _ w).drew).alloc _, .inr ⟨_, rfl, Nat.le_refl _⟩⟩
      simp [Builtin.append_, run_underlying ht, run_underlying hk, sizeOf, typeInfo, zeroValue, hi, hz, hsize, hint, hwr, hneg, hmb', h0, hroom, h63', h48', Question.forced, hfo, newRow, grownCap]
      congr 2
      rw [hzc, zeroCells_one, zeroCells_one]
      apply Array.ext'
      simp

theorem wpList_append_zeros {w : World} {ops : Array Oper} {rest : List Oper} {o : Oper} {a : Act} {Q : Exit → Act → World → Prop} (s x : Operand) (t k e : TypeId) (i : TypeInfo) (z : Value) (bytes : Nat)
    (hgd : o.guard = none) (ho : o.op = .call { callee := .builtin .append, args := #[s, x], argTypes := #[t, k] })
    (ht : P.underlying t = some (.slice e)) (hk : P.underlying k = some (.int .i64)) (hi : P.info? e = some i) (hz : i.zero = some z)
    (hsize : i.size = 1) (hby : i.bytes = bytes) (hzc : z.cells = #[z]) (hz1 : z.oneCell' = true) (v : Value) (xs : List Value) (m : Nat) (hv : a.eval s = v) (hm : a.eval x = .int .i64 (m : Int))
    (hown : Own w e v xs) (h63 : xs.length + m ≤ maxLen) (hbytes : (xs.length + m) * bytes ≤ 140737488355328) (hmb : m * bytes ≤ 281474976710656)
    (h : ∀ v' w', Own w' e v' (xs ++ List.replicate m z) → Own1 v v' w w' → wpList P ops Q rest (a.put o.dst v') w') : wpList P ops Q (o :: rest) a w := by
  refine wpList_plain hgd fun _ hK => ?_
  obtain ⟨v', w', hr, h2, h3⟩ := run_append_zeros (P := P) w t k o.type e i z bytes ht hk hi hz hsize hby hzc hz1 v xs hown m h63 hbytes hmb
  unfold Oper.wp execOp
  simp only [ho, resolve, invoke, builtin, Sem.run_bind, Sem.run_pure, Result.andThen_ok, List.map_toArray, List.map_cons, List.map_nil, hv, hm, hr]
  exact hK _ _ (h v' w' h2 h3)
end
end Go.Proofs.Ytendcmdpmohacaa

/-
  Bytes that a call made for itself: their cells, what a store does, what is appended. No law's text here.
-/
namespace Go.Proofs.Ytendcmdpmohacaa
open Go.RowKit

/-- Bytes in memory that is new since w0. -/
structure Mine (w0 w : World) (v : Value) (bs : List UInt8) : Prop where
  own : Own w 5 v (bs.map B8)
  fr : Fr [] w0 w
  new : ∀ k, v.ownBlock = some k → w0.heap.size ≤ k

section
variable {w0 w w' : World} {v : Value} {bs : List UInt8}
theorem Mine.fr0 (h : Mine w0 w v bs) (hf : Fr [] w w') : Mine w0 w' v bs := ⟨h.own.fr hf (by simp), h.fr.trans hf (by simp), h.new⟩
theorem Mine.src (h : Mine w0 w v bs) : Src w v (bs.map B8) := h.own.src
theorem Mine.copied {xs : List UInt8} {vo : Value} (hO : Own w' 5 vo (xs.map B8)) (hG : Own1 (.slice (some ⟨w.heap.size, 0, none⟩) 0 0) vo (w.alloc (.cells #[] 5)) w') (hF : Fr [] w0 w) : Mine w0 w' vo xs := by
  refine ⟨hO, (hF.alloc _).trans hG.1 (by intro x hx; simp [Value.ownBlock] at hx; subst hx; exact .inr hF.size), ?_⟩
  intro k hk
  have := hF.size
  rcases hG.2 with e | ⟨g, e, hg⟩
  · rw [e] at hk; simp [Value.ownBlock] at hk; omega
  · rw [e] at hk; injection hk with hk; subst hk; simp at hg; omega
theorem Mine.appended {v' : Value} {xs ys : List UInt8} (h : Mine w0 w v xs) (hO : Own w' 5 v' ((xs ++ ys).map B8)) (hG : Own1 v v' w w') : Mine w0 w' v' (xs ++ ys) := by
  refine ⟨hO, h.fr.trans hG.1 (by intro x hx; exact .inr (h.new x (by simpa using hx))), ?_⟩
  intro k hk
  have := h.fr.size
  rcases hG.2 with e | ⟨g, e, hg⟩
  · rw [e] at hk; exact h.new k hk
  · rw [e] at hk; injection hk with hk; subst hk; omega
theorem Mine.slice (h : Mine w0 w v bs) : ∃ A c, v = .slice A bs.length c := by
  rcases h.own.form with ⟨rfl, h0⟩ | ⟨g, cap, cur, rfl, -⟩
  · exact ⟨none, 0, by have := congrArg List.length h0; simp at this; rw [this]; rfl⟩
  · exact ⟨_, _, by simp; exact ⟨rfl, rfl⟩⟩
/-- A cell, to be read and written. -/
theorem Mine.cell {A : Option Addr} {n c j : Nat} (h : Mine w0 w (.slice A n c) bs) (hj : j < bs.length) :
    ∃ g, A = some ⟨g, 0, none⟩ ∧ w0.heap.size ≤ g ∧ w.cell? ⟨g, j, none⟩ = some (.int .u8 ((bs.getD j 0).toNat : Int)) ∧ w.frozen? ⟨g, j, none⟩ = false ∧ n = bs.length ∧
      ∀ z : UInt8, Mine w0 (w.setCell ⟨g, j, none⟩ (.int .u8 (z.toNat : Int))) (.slice A n c) (bs.set j z) ∧ Fr [g] w (w.setCell ⟨g, j, none⟩ (.int .u8 (z.toNat : Int))) := by
  obtain ⟨g, rfl, h1, h2, h3, h4⟩ := h.own.cell (j := j) (by simpa using hj)
  refine ⟨g, rfl, h.new g rfl, ?_, h2, by simpa using h3, fun z => ⟨⟨?_, h.fr.setCell (.inr (h.new g rfl)) _, h.new⟩, (Fr.refl _ _).setCell (.inl (by simp)) _⟩⟩
  · rw [h1, List.getElem?_map, List.getElem?_eq_getElem hj, List.getD_eq_getElem?_getD, List.getElem?_eq_getElem hj]; rfl
  · have := h.own.set j (.int .u8 (z.toNat : Int))
    rw [List.map_set]
    exact this
end

theorem Mine.nil (w : World) : Mine w w (.slice none 0 0) [] := ⟨Own.nil _ _, Fr.refl _ _, by simp [Value.ownBlock]⟩

/-- append of a made row of bytes, onto bytes of the call's own. -/
theorem wp_append_zeros_u8 {w : World} {ops : Array Oper} {rest : List Oper} {o : Oper} {a : Act} {Q : Exit → Act → World → Prop} (s x : Operand) (v : Value) (xs : List UInt8) (m : Nat)
    (hgd : o.guard = none) (ho : o.op = .call { callee := .builtin .append, args := #[s, x], argTypes := #[45, 3] })
    (hv : a.eval s = v) (hm : a.eval x = .int .i64 (m : Int)) (hown : Own w 5 v (xs.map B8)) (hlen : xs.length + m ≤ 1000000000000)
    (h : ∀ v' w', Own w' 5 v' ((xs ++ List.replicate m 0).map B8) → Own1 v v' w w' → wpList Try.prog ops Q rest (a.put o.dst v') w') : wpList Try.prog ops Q (o :: rest) a w := by
  obtain ⟨i, hi, hz, h1, h2⟩ := info_parts info_u8
  refine wpList_append_zeros s x 45 3 5 i _ 1 hgd ho Try.underlying45 Try.underlying3 hi hz h1 h2 rfl rfl v _ m hv hm hown ?_ ?_ ?_ ?_
  · simp only [List.length_map, maxLen]; omega
  · simp only [List.length_map]; omega
  · omega
  · intro v' w' k1 k2
    refine h v' w' ?_ k2
    rw [List.map_append, List.map_replicate]
    exact k1

/-- append onto bytes of the call's own, behind a test that held. -/
theorem wp_append_u8G {w : World} {ops : Array Oper} {rest : List Oper} {o : Oper} {a : Act} {Q : Exit → Act → World → Prop} (s x : Operand) (v : Value) (xs : List UInt8) (src : Value) (news : List UInt8)
    (hw : Region.wanted o (yielded ops a.tmps) = true) (ho : o.op = .call { callee := .builtin .append, args := #[s, x], argTypes := #[45, 45] })
    (hv : a.eval s = v) (hsv : a.eval x = src) (hown : Own w 5 v (xs.map B8)) (hs : Src w src (news.map B8)) (hlen : xs.length + news.length ≤ 1000000000000)
    (h : ∀ v' w', Own w' 5 v' ((xs ++ news).map B8) → Own1 v v' w w' → wpList Try.prog ops Q rest (a.put o.dst v') w') : wpList Try.prog ops Q (o :: rest) a w := by
  refine wpList_step fun K hK => ?_
  rw [if_pos hw]
  obtain ⟨i, hi, hz, h1, h2⟩ := info_parts info_u8
  refine wp_append_mine s x 45 5 i _ 1 ho Try.underlying45 hi hz h1 h2 rfl v _ src _ hv hsv hown hs ?_ ?_ ?_ ?_
  · intro u hu
    obtain ⟨b, _, rfl⟩ := List.mem_map.1 hu
    rfl
  · simp only [List.length_map, maxLen]; omega
  · simp only [List.length_map]; omega
  · intro A c w' k1 k2
    rw [← List.map_append] at k1
    exact hK _ _ (h _ _ k1 k2)

end Go.Proofs.Ytendcmdpmohacaa

/-
  From a contract of a law (it answers true, and nothing that was there has turned) to its row. No program text here.
-/
namespace Go.Proofs.Ytendcmdpmohacaa
open Go.ChangeShapes Go.WideShapes Go.ChangeAt Go.RowKit

section
variable {H : Type} {enc : TypeId × Value → H} {P : Program}

/-- Every argument reads behind the call as it did. -/
theorem args_stay (hl : laidOutB P = true) {W W' : World} (hb : Below W.heap.size W W') (sp : Nat → Bool) :
    ∀ (ts : List TypeId) (vs : List Value) (ds : List (DataW H)) (ps : List MemPlace), (∀ t ∈ ts, P.readableRec t = true ∧ t < P.types.size) →
      DataW.TrodAll enc P W 0 (fun _ => true) true ts vs ds ps → (∀ x ∈ ps, x.block < W.heap.size) → (∀ x ∈ ps, sp x.block = true) → DataW.TrodAll enc P W' 0 sp true ts vs ds ps := by
  intro ts
  induction ts with
  | nil =>
    intro vs ds ps _ h _ _
    obtain ⟨rfl, rfl, rfl⟩ := trodAll_nil h
    exact rfl
  | cons t ts ih =>
    intro vs ds ps ht h hlt hsp
    obtain ⟨v, vs', d, ds', p, q, rfl, rfl, rfl, h1, h2⟩ := trodAll_cons h
    have ⟨r1, r2⟩ := ht t (List.mem_cons_self ..)
    refine ⟨p, q, ?_, (ih vs' ds' q (fun t' h' => ht t' (List.mem_cons_of_mem _ h')) h2 (fun x hx => hlt x (List.mem_append_right _ hx)) (fun x hx => hsp x (List.mem_append_right _ hx))), rfl⟩
    exact WideElems.Trod_stays hl r1 r2 h1 (fun x hx => hb.same (hlt x (List.mem_append_left _ hx))) (fun x hx => hsp x (List.mem_append_left _ hx))

/-- What the row asks behind a law's call. -/
theorem law_post (hl : laidOutB P = true) {f : Func} {s : ChangeSpec} {W W' : World} {args : Array Value} {ds gs : List (DataW H)} {before : List MemPlace} {tb : TypeId}
    (hW : DataW.Whole enc P f.params.toList s.vars false W args.toList ds gs before) (hv : s.vars = []) (hspec : s.fn H ds = { results := [.lit (.bool true)], args := ds })
    (hp : ∀ t ∈ f.params.toList, P.readableRec t = true ∧ t < P.types.size) (hr : f.resultTypes = #[tb]) (hbool : P.underlying tb = some .bool) (hb : Below W.heap.size W W') :
    s.post enc P f false true false false W args (.bool true) W' := by
  have hW0 := hW
  obtain ⟨pa, pv, hA, hV, hps, hz, -⟩ := hW
  rw [hv] at hV
  obtain ⟨rfl, rfl⟩ := trodVars_none hV
  rw [List.append_nil] at hps
  subst hps
  have hlt : ∀ x ∈ before, x.block < W.heap.size := fun x hx => hW0.lt x hx
  have hS : s.fn H (ds ++ []) = { results := [.lit (.bool true)], args := ds } := by rw [List.append_nil]; exact hspec
  have hres : ∀ (b : Nat) (sp : Nat → Bool) (hd : Bool), DataW.TrodAll enc P W' b sp hd f.resultTypes.toList ((Value.bool true).resultList f.resultTypes.size) [.lit (.bool true)] [] := by
    intro b sp hd
    rw [hr]
    exact trodAll_mk1 (shut_bool hbool _)
  have hargs : ∀ sp : Nat → Bool, (∀ x ∈ before, sp x.block = true) → DataW.TrodAll enc P W' 0 sp true f.params.toList args.toList ds before := fun sp hsp => args_stay hl hb sp _ _ _ _ hp hA hlt hsp
  refine ⟨ds, [], before, [], before, [], hW0, ?_, ?_, ?_, World.keptBut_mono (fun x hx => ⟨hx, .inr ?_⟩) (hb.frame (· ∈ before)), fun _ => ?_⟩
  · rw [hS]; exact hres _ _ _
  · rw [hS]; exact hargs _ (fun x hx => by simpa using hlt x hx)
  · rw [hS, hv]; exact rfl
  · simpa using hx
  · refine ⟨ok_one hr rfl (okWide_bool_mk hbool _), _, [], ([] ++ before) ++ [], ⟨[] ++ before, [], trodAll_append (hargs _ (fun _ _ => rfl)) (hres _ _ _), by rw [hv]; exact rfl, rfl, ?_, fun h => by cases h⟩, fun x hx _ => by simpa using hx⟩
    intro b off hx
    have hx' : MemPlace.cell b off ∈ before := by simpa using hx
    rw [hb.frozen (hlt _ hx')]
    exact hz b off hx'
end

/-- A law's row, from its contract. -/
theorem law_lift {C : Checked} {H : Type} {enc : TypeId × Value → H} {os : Os} (own : ownKnob C.prog.godebug = none) (started : os.Started) {f : FuncId} {fn : Func} {s : ChangeSpec}
    (noInit : C.prog.inits.idxOf? f = none) (hfn : C.prog.funcs[f]? = some fn)
    (witness : ∃ (w : World) (tape : Tape) (i : Input), w.os = os ∧ (w.forCall tape i).Shaped C.prog ∧ i.vars = [] ∧ Input.okWide C.prog (w.forCall tape i) .any w.heap.size f i ∧
      s.pre6 enc C.prog fn [] false (w.forCall tape i).memory i.args ∧ ({} : Assume).holds C.prog (lone (Frame.enter C.prog f i.args .normal) [] (w.forCall tape i)))
    (hl : laidOutB C.prog = true) (hv : s.vars = []) {tb : TypeId} (hr : fn.resultTypes = #[tb]) (hbool : C.prog.underlying tb = some .bool)
    (hp : ∀ t ∈ fn.params.toList, C.prog.readableRec t = true ∧ t < C.prog.types.size)
    (contract : ∀ (W : World) (base : Nat) (args : Array Value) (ds : List (DataW H)) (before : List MemPlace),
      (∀ (j : Nat) t v, fn.params[j]? = some t → args[j]? = some v → Value.okWide C.prog W .any base t v) →
      DataW.TrodAll enc C.prog W 0 (fun _ => true) true fn.params.toList args.toList ds before → (∀ x ∈ before, x.block < W.heap.size) →
      s.fn H ds = { results := [.lit (.bool true)], args := ds } ∧ Calls C.prog f args W fun e W' => e = .returned (.bool true) ∧ Below W.heap.size W W') :
    ReturnsInHanded {} C os f .any (s.pre6 enc C.prog fn [] false) (s.post enc C.prog fn false true false false) := by
  refine returnsInHanded_of_change own started noInit hfn witness ?_
  intro W base args ds gs before hval hW _ _
  have hW0 := hW
  obtain ⟨pa, pv, hA, hV, hps, -, -⟩ := hW
  rw [hv] at hV
  obtain ⟨rfl, rfl⟩ := trodVars_none hV
  rw [List.append_nil] at hps
  subst hps
  obtain ⟨h1, h2⟩ := contract W base args ds before hval hA (fun x hx => hW0.lt x hx)
  refine h2.mono fun e W' ⟨he, hb⟩ => ?_
  exact ⟨_, he, law_post hl hW0 hv h1 hp hr hbool hb⟩
end Go.Proofs.Ytendcmdpmohacaa

/-
  An argument that is a list of acts, read as cells: kind, width and number of each; no condition.
-/
namespace Go.Proofs.Ytendcmdpmohacaa
open Go.ChangeShapes Go.WideShapes Go.ChangeAt Go.RowKit Go.Deep

/-- The script's acts as cells: kind, width, number of each. -/
def Acts (w : World) (A : Option Addr) (len : Nat) (acts : List (Int × Int × Nat)) : Prop :=
  acts.length = len ∧ ∀ (i : Nat) (k n : Int) (v : Nat), acts[i]? = some (k, n, v) → v < 18446744073709551616 ∧ ∃ b o, A = some ⟨b, o, none⟩ ∧
    w.cell? ⟨b, o + i * 3, none⟩ = some (.int .i64 k) ∧ w.cell? ⟨b, o + i * 3 + 1, none⟩ = some (.int .i64 n) ∧ w.cell? ⟨b, o + i * 3 + 2, none⟩ = some (.int .u64 (v : Int))

theorem Acts.fr {w w' : World} {A : Option Addr} {len : Nat} {acts : List (Int × Int × Nat)} (h : Acts w A len acts) (hf : Fr [] w w') : Acts w' A len acts := by
  refine ⟨h.1, fun i k n v hi => ?_⟩
  obtain ⟨hv, b, o, rfl, h1, h2, h3⟩ := h.2 i k n v hi
  have f : ∀ (j : Nat) (u : Value), w.cell? ⟨b, j, none⟩ = some u → w'.cell? ⟨b, j, none⟩ = some u := fun j u hu => (hf.cell (World.block_lt_of_cell? w _ hu) (by simp)).trans hu
  exact ⟨hv, b, o, rfl, f _ _ h1, f _ _ h2, f _ _ h3⟩

theorem plain_of_cell {w : World} {a : Addr} {u : Value} (h : w.cell? a = some u) : a = ⟨a.block, a.off, none⟩ := by
  cases he : a.spot with
  | none => cases a; simp at he ⊢; exact he
  | some x =>
    unfold World.cell? at h
    simp only [he, Option.isSome_some, if_true] at h
    split at h <;> cases h

theorem add_plain (b o j : Nat) : (⟨b, o, none⟩ : Addr).add j = ⟨b, o + j, none⟩ := by
  by_cases hj : j = 0
  · subst hj; simp [Addr.add]
  · simp [Addr.add, hj]

theorem u64_nat {x : Int} (h : (Lit.int .u64 x).wf = true) : ∃ v : Nat, x = (v : Int) ∧ v < 18446744073709551616 := by
  simp [Lit.wf, IntKind.min, IntKind.max, IntKind.signed, IntKind.bits] at h
  exact ⟨x.toNat, by omega, by omega⟩

section
variable {H : Type} {enc : TypeId × Value → H} {w : World} {base : Nat} {spare : Nat → Bool} {held : Bool}
theorem u8_cell {x : Int} (h : (Lit.int .u8 x).wf = true) : ∃ b : UInt8, Value.int .u8 x = B8 b := by
  simp [Lit.wf, IntKind.min, IntKind.max, IntKind.signed, IntKind.bits] at h
  refine ⟨UInt8.ofNat x.toNat, ?_⟩
  simp only [B8, UInt8.toNat_ofNat', Value.int.injEq, true_and]
  rw [Nat.mod_eq_of_lt (by omega)]
  omega

/-- An argument that is a list of bytes. -/
theorem open_bytes {n : Nat} {v : Value} {d : DataW H} {ps : List MemPlace} (h : DataW.trod enc Try.prog w base spare held n 45 [v] = some (d, ps)) :
    ∃ (A : Option Addr) (len cap : Nat) (bs : List UInt8), v = .slice A len cap ∧ bs.length = len ∧ len ≤ maxLen ∧ Src w (.slice A len cap) (bs.map B8) := by
  rcases open_slice Try.underlying45 h with ⟨h0, -⟩ | ⟨a, len, cap, m, n', D, Pl, h0, -, hc, hm, hmm, -, hi⟩
  · exact ⟨none, 0, 0, [], by simpa using h0, rfl, by simp, .inl ⟨rfl, rfl⟩⟩
  · have hlm : len ≤ m := by rw [hmm]; split <;> omega
    have e1 : Try.prog.cellsOf 5 = 1 := by kernel_rfl
    have each : ∀ i, i < len → ∃ b : UInt8, w.cell? (a.add i) = some (B8 b) := by
      intro i hil
      obtain ⟨cs', hcs, ht⟩ := hi i (by omega)
      rw [e1, Nat.mul_one] at hcs
      obtain ⟨-, -, hcell⟩ := World.cells?_some hcs
      obtain ⟨x, rfl, -, hwf⟩ := DataW.trod_int Try.underlying5 ht
      obtain ⟨b, hb⟩ := u8_cell hwf
      have := hcell 0 (by omega)
      simp only [Addr.add, if_pos, List.getElem?_cons_zero] at this
      exact ⟨b, by rw [← hb]; exact this⟩
    let f : Nat → UInt8 := fun i => if hil : i < len then Classical.choose (each i hil) else 0
    have hf : ∀ i, i < len → w.cell? (a.add i) = some (B8 (f i)) := by
      intro i hil
      simp only [f, dif_pos hil]
      exact Classical.choose_spec (each i hil)
    refine ⟨some a, len, cap, (List.range len).map f, by simpa using h0, by simp, by omega, .inr ⟨a, cap, by simp, by simpa using hc, fun j u hu => ?_⟩⟩
    rw [List.getElem?_map, List.getElem?_map] at hu
    by_cases hj : j < len
    · rw [List.getElem?_range hj] at hu
      simp at hu
      rw [← hu]
      exact hf j hj
    · rw [List.getElem?_eq_none (by simpa using hj)] at hu
      simp at hu
end
end Go.Proofs.Ytendcmdpmohacaa

/-
  An argument that is a list of one-cell things (numbers, truth values), read as cells; no condition.
-/
namespace Go.Proofs.Ytendcmdpmohacaa
open Go.ChangeShapes Go.WideShapes Go.ChangeAt Go.RowKit Go.Deep

/-- The k-th cell of what came in. -/
theorem Src.cellAt {α : Type} {w : World} {A : Option Addr} {n c k : Nat} {xs : List α} {f : α → Value} (h : Src w (.slice A n c) (xs.map f)) {x : α} (hk : xs[k]? = some x) : ∃ ad, A = some ad ∧ w.cell? (ad.add k) = some (f x) := by
  rcases h with ⟨_, h0⟩ | ⟨ad, c', h1, _, hc⟩
  · rw [List.map_eq_nil_iff.1 h0] at hk; simp at hk
  · injection h1 with h1
    exact ⟨ad, h1, hc k _ (by rw [List.getElem?_map, hk]; rfl)⟩

section
variable {H : Type} {enc : TypeId × Value → H} {w : World} {base : Nat} {spare : Nat → Bool} {held : Bool}
theorem open_cells {α : Type} [Inhabited α] {st e : TypeId} (f : α → Value) (hst : Try.prog.underlying st = some (.slice e)) (hc : Try.prog.cellsOf e = 1)
    (each : ∀ n' cs x, DataW.trod enc Try.prog w base spare held n' e cs = some x → ∃ a : α, cs = [f a])
    {n : Nat} {v : Value} {d : DataW H} {ps : List MemPlace} (h : DataW.trod enc Try.prog w base spare held n st [v] = some (d, ps)) :
    ∃ (A : Option Addr) (len cap : Nat) (l : List α), v = .slice A len cap ∧ l.length = len ∧ len ≤ maxLen ∧ Src w (.slice A len cap) (l.map f) := by
  rcases open_slice hst h with ⟨h0, -⟩ | ⟨a, len, cap, m, n', D, Pl, h0, -, hcap, hm, hmm, -, hi⟩
  · exact ⟨none, 0, 0, [], by simpa using h0, rfl, by simp, .inl ⟨rfl, rfl⟩⟩
  · have hlm : len ≤ m := by rw [hmm]; split <;> omega
    have each2 : ∀ i, i < len → ∃ x : α, w.cell? (a.add i) = some (f x) := by
      intro i hil
      obtain ⟨cs', hcs, ht⟩ := hi i (by omega)
      rw [hc, Nat.mul_one] at hcs
      obtain ⟨-, -, hcell⟩ := World.cells?_some hcs
      obtain ⟨x, rfl⟩ := each _ _ _ ht
      have := hcell 0 (by omega)
      simp only [Addr.add, if_pos, List.getElem?_cons_zero] at this
      exact ⟨x, this⟩
    obtain ⟨g, hg⟩ := choose_lt each2
    refine ⟨some a, len, cap, (List.range len).map g, by simpa using h0, by simp, by omega, .inr ⟨a, cap, by simp, by simpa using hcap, fun j u hu => ?_⟩⟩
    rw [List.getElem?_map, List.getElem?_map] at hu
    by_cases hj : j < len
    · rw [List.getElem?_range hj] at hu
      simp at hu
      rw [← hu]
      exact hg j hj
    · rw [List.getElem?_eq_none (by simpa using hj)] at hu
      simp at hu

/-- A number in a cell. -/
def C64 (x : UInt64) : Value := .int .u64 (x.toNat : Int)
def I64 (x : Int) : Value := .int .i64 x

end
end Go.Proofs.Ytendcmdpmohacaa

/-
  Contracts of the document's Digits and Number; conditions: the lengths are bounded as named.
-/
namespace Go.Proofs.Ytendcmdpmohacaa
open Go.RowKit

/-- A bit as a byte. -/
def u8b (b : Bool) : UInt8 := if b then 1 else 0
def bitsU (l : List Bool) : List UInt8 := l.map u8b
@[simp] theorem bitsU_length (l : List Bool) : (bitsU l).length = l.length := by simp [bitsU]
theorem bitsU_append (a b : List Bool) : bitsU (a ++ b) = bitsU a ++ bitsU b := by simp [bitsU]
theorem B8_u8b (b : Bool) : B8 (u8b b) = .int .u8 (b.toNat : Int) := by cases b <;> rfl

/-- A row of bytes in new memory. -/
def NewRow (w : World) (xs : List UInt8) (e : Ending) (w' : World) : Prop :=
  ∃ v, e = .returned v ∧ Own w' 5 v (xs.map B8) ∧ Fr [] w w' ∧ ∀ k, v.ownBlock = some k → w.heap.size ≤ k

theorem NewBytes.row {w : World} {xs : List UInt8} {e : Ending} {w' : World} (h : NewBytes w xs e w') : NewRow w xs e w' := by
  obtain ⟨c, h1, h2, h3⟩ := h
  exact ⟨_, h1, h2, h3, fun k hk => by simp [Value.ownBlock] at hk; omega⟩

theorem digits_any (a n : Nat) (w : World) (hn : n ≤ 1000000) (ha : a < 18446744073709551616) :
    Calls Try.prog 72 #[.int .u64 (a : Int), .int .i64 (n : Int)] w (NewBytes w (bitsU (digits a n))) := by
  obtain ⟨i, hi, hz, h1, h2⟩ := info_parts info_u8
  go_enter Try.func72, Try.ntmps72
  go_wp2_with (at_make; refine wpList_make_mine _ _ 45 5 i _ 1 _ _ n rfl rfl Try.underlying45 hi hz h1 h2 rfl rfl rfl (by omega) (by simp only [maxLen]; omega) ?_)
  intro w1 hO hF hlt
  have HO := Lib.hid hO; clear hO
  go_wp2_with fail
  go_loopw [0, 6] (fun s0 s6 wr => ∃ j : Nat, j ≤ n ∧ s6 = .int .i64 ((j : Int) - 1) ∧ s0 = .int .u64 ((a >>> (n - j) : Nat) : Int) ∧ Own wr 5 (.slice (some ⟨w.heap.size, 0, none⟩) n n) (List.replicate j (.int .u8 0) ++ (bitsU (digits a (n - j))).map B8) ∧ Fr [] w wr) (fun _ s6 _ => (intOf s6 + 1).toNat)
  case atStart => exact ⟨n, Nat.le_refl _, rfl, by simp, by simpa [digits, bitsU] using HO.out, hF⟩
  case round =>
    obtain ⟨j, hj, rfl, rfl, hR, hF2⟩ := hrel
    by_cases hpos : 0 < j
    · obtain ⟨j', rfl⟩ : ∃ j', j = j' + 1 := ⟨j - 1, by omega⟩
      obtain ⟨V, hV⟩ : ∃ V, V = a >>> (n - (j' + 1)) := ⟨_, rfl⟩
      rw [← hV]
      have hVl : V < 18446744073709551616 := by rw [hV]; exact Nat.lt_of_le_of_lt (Nat.shiftRight_le _ _) ha
      have hlen : (List.replicate (j' + 1) (Value.int .u8 0) ++ (bitsU (digits a (n - (j' + 1)))).map B8).length = n := by simp; omega
      obtain ⟨e1, e2, e3⟩ := hR.at_ (j := j') (by rw [hlen]; omega)
      have e4 : wr.cell? ⟨w.heap.size, j', none⟩ = some (.int .u8 0) := by rw [e1]; simp [List.getElem?_append]
      obtain ⟨b, hb2, hb⟩ : ∃ b : Nat, b < 2 ∧ b = V % 2 := ⟨_, Nat.mod_lt _ (by omega), rfl⟩
      have eb : IntKind.u8.wrap ((V : Int) % 2) = (b : Int) := by rw [IntWalk.u8_in _ (by omega)]; omega
      have HR := Lib.hid hR; clear hR
      have HV := Lib.hid hV; clear hV
      have Hb := Lib.hid hb; clear hb
      clear e1 hlen
      go_wp2_with fail
      have hV := HV.out
      have hb := Hb.out
      have hd : digits a (n - j') = (V.testBit 0) :: digits a (n - (j' + 1)) := by
        rw [show n - j' = (n - (j' + 1)) + 1 by omega, digits, hV, Nat.testBit_shiftRight]; rfl
      have hbB : Value.int .u8 (b : Int) = B8 (u8b (V.testBit 0)) := by
        have e6 : V % 2 = (V.testBit 0).toNat := by rw [Nat.testBit_zero]; rcases Nat.mod_two_eq_zero_or_one V with h | h <;> rw [h] <;> rfl
        rw [B8_u8b, hb, e6]
      refine ⟨⟨j', by omega, rfl, ?_, ?_, ?_⟩, by simp only [intOf]; omega⟩
      · rw [show n - j' = (n - (j' + 1)) + 1 by omega, Nat.shiftRight_add, ← hV, Nat.shiftRight_eq_div_pow]; congr 1
      · have h3 := HR.out.set j' (Value.int .u8 (b : Int))
        rw [hbB] at h3 ⊢
        rw [hd]
        have e5 : (List.replicate (j' + 1) (Value.int .u8 0) ++ (bitsU (digits a (n - (j' + 1)))).map B8).set j' (B8 (u8b (V.testBit 0))) = List.replicate j' (Value.int .u8 0) ++ (bitsU ((V.testBit 0) :: digits a (n - (j' + 1)))).map B8 := by
          rw [List.replicate_succ', List.append_assoc, List.set_append_right _ _ (by simp)]
          simp [bitsU]
        rw [e5] at h3
        exact h3
      · exact hF2.setCell (.inr (Nat.le_refl _)) _
    · obtain rfl : j = 0 := by omega
      have HR := Lib.hid hR; clear hR
      go_wp2_with fail
      go_ret
      refine ⟨n, by rw [bitsU_length, digits_length]; rfl, ?_, hF2⟩
      have h3 := HR.out
      rw [bitsU_length, digits_length]
      simpa using h3

theorem digits_any' (a n : Nat) (w : World) (hn : n ≤ 1000000) (ha : a < 18446744073709551616) :
    Calls Try.prog 72 #[.int .u64 (a : Int), .int .i64 (n : Int)] w fun e w' => ∃ c, e = .returned (.slice (some ⟨w.heap.size, 0, none⟩) n c) ∧
      Own w' 5 (.slice (some ⟨w.heap.size, 0, none⟩) n c) ((bitsU (digits a n)).map B8) ∧ Fr [] w w' :=
  (digits_any a n w hn ha).mono fun _ _ ⟨c, h1, h2, h3⟩ => by
    rw [bitsU_length, digits_length] at h1 h2
    exact ⟨c, h1, h2, h3⟩

/-- The k-th cell of bytes that came in. -/
theorem Src.at_ {w : World} {A : Option Addr} {n c k : Nat} {xs : List UInt8} (h : Src w (.slice A n c) (xs.map B8)) (hk : k < xs.length) : ∃ ad, A = some ad ∧ w.cell? (ad.add k) = some (B8 (xs.getD k 0)) := by
  rcases h with ⟨_, h0⟩ | ⟨ad, c', h1, _, hc⟩
  · rw [List.map_eq_nil_iff.1 h0] at hk; simp at hk
  · injection h1 with h1
    refine ⟨ad, h1, hc k _ ?_⟩
    rw [List.getElem?_map, List.getElem?_eq_getElem hk, List.getD_eq_getElem?_getD, List.getElem?_eq_getElem hk]; rfl
theorem Src.slice {w : World} {src : Value} {xs : List UInt8} (h : Src w src (xs.map B8)) : ∃ A c, src = .slice A xs.length c := by
  rcases h with ⟨rfl, h⟩ | ⟨ad, c, rfl, -⟩
  · exact ⟨_, _, by rw [List.map_eq_nil_iff.1 h]; rfl⟩
  · exact ⟨_, _, by rw [List.length_map]⟩

theorem number_append_opt (l : List Bool) (k : Nat) (h : k < l.length) : number (l.take k ++ l[k]?.toList) = 2 * number (l.take k) + (l.getD k false).toNat := by
  rw [List.getElem?_eq_getElem h, List.getD_eq_getElem?_getD, List.getElem?_eq_getElem h]
  exact number_append _ _

theorem number_any (src : Value) (l : List Bool) (w : World) (hs : Src w src ((bitsU l).map B8)) (hn : l.length ≤ 64) :
    Calls Try.prog 74 #[src] w fun e w' => e = .returned (.int .u64 (number l : Int)) ∧ w' = w := by
  obtain ⟨A, c, rfl⟩ := hs.slice
  rw [bitsU_length] at *
  go_enter Try.func74, Try.ntmps74
  go_wp2_with fail
  go_loop [3, 4] (fun s3 s4 => ∃ k : Nat, k ≤ l.length ∧ s4 = .int .i64 (k : Int) ∧ s3 = .int .u64 (number (l.take k) : Int)) (fun _ s4 => l.length - (intOf s4).toNat)
  case atStart => exact ⟨0, Nat.zero_le _, rfl, by simp [number]⟩
  case round =>
    obtain ⟨k, hk, rfl, rfl⟩ := hrel
    by_cases hlt : k < l.length
    · obtain ⟨ad, rfl, hc⟩ := hs.at_ (k := k) (by simpa using hlt)
      obtain ⟨b, hb⟩ : ∃ b, b = l.getD k false := ⟨_, rfl⟩
      have hc' : w.cell? (ad.add k) = some (.int .u8 (b.toNat : Int)) := by
        rw [hc, hb, ← B8_u8b]
        simp [bitsU, List.getD_eq_getElem?_getD, hlt]
      clear hc
      obtain ⟨V, hV⟩ : ∃ V, V = number (l.take k) := ⟨_, rfl⟩
      rw [← hV]
      have h1 := number_lt (l.take k)
      have h2 : (l.take k).length = k := by simp; omega
      rw [h2, ← hV] at h1
      have h3 : 2 ^ k ≤ 2 ^ 63 := Nat.pow_le_pow_right (by omega) (by omega)
      have hbl : b.toNat ≤ 1 := by cases b <;> simp
      have ew1 : IntKind.u64.wrap (2 * (V : Int)) = 2 * (V : Int) := IntWalk.u64_in _ (by omega)
      have ew2 : IntKind.u64.wrap (b.toNat : Int) = (b.toNat : Int) := IntWalk.u64_in _ (by omega)
      have ew3 : IntKind.u64.wrap (2 * (V : Int) + (b.toNat : Int)) = 2 * (V : Int) + (b.toNat : Int) := IntWalk.u64_in _ (by omega)
      have HV := Lib.hid hV; clear hV
      have Hb := Lib.hid hb; clear hb
      clear h1 h2 h3
      go_wp2_with fail
      go_round
      case rel =>
        refine ⟨k + 1, by omega, by go_num, ?_⟩
        rw [List.take_add_one, number_append_opt l k hlt, ← HV.out, ← Hb.out]
        go_num
      case measure => simp [intOf]; omega
    · obtain rfl : k = l.length := by omega
      go_wp2_with fail
      go_ret
      exact ⟨by simp, rfl⟩
end Go.Proofs.Ytendcmdpmohacaa

/-
  What the laws of layer 4 ask of the coder: contracts of its exported functions, over predicates of its own; a script of chances and bits as cells; the chance of a raw number. No condition.
-/
namespace Go.Proofs.Ytendcmdpmohacaa
open Go.RowKit Go.ChangeShapes Go.WideShapes Go.ChangeAt Go.Deep

abbrev pt (p : Nat) : Value := .pointer (some ⟨p, 0, none⟩)

/-- The encoder's contracts. En w p D e: at p there is an encoder with the code e; the blocks D bear it. -/
structure EncSpec where
  En : World → Nat → List Nat → Enc → Prop
  lt : ∀ {w p D e}, En w p D e → ∀ k ∈ p :: D, k < w.heap.size
  fr : ∀ {w w' p D e S}, En w p D e → Fr S w w' → (∀ k ∈ p :: D, k ∉ S) → En w' p D e
  new : ∀ w, Calls Try.prog 21 #[] w fun r w' => ∃ p D, r = .returned (pt p) ∧ En w' p D encNew ∧ Fr [] w w' ∧ ∀ k ∈ p :: D, w.heap.size ≤ k
  bad : ∀ w p D e (c : Nat) (bit : Int), En w p D e → c < 65536 → -9223372036854775808 ≤ bit → bit ≤ 9223372036854775807 → ¬ (rightC c ∧ (bit = 0 ∨ bit = 1)) →
    Calls Try.prog 82 #[pt p, .int .u16 (c : Int), .int .i64 bit] w fun r w' => r = .returned (.int .i64 1) ∧ Fr [] w w'
  put : ∀ w p D e (c : Nat) (bit : Bool), En w p D e → e.Ok → rightC c → e.n ≤ 100000 →
    Calls Try.prog 82 #[pt p, .int .u16 (c : Int), .int .i64 (bit.toNat : Int)] w fun r w' => r = .returned (.int .i64 0) ∧ ∃ D', En w' p D' (encPut e c bit) ∧ Fr (p :: D) w w' ∧ ∀ k ∈ D', k ∈ D ∨ w.heap.size ≤ k
  bytes : ∀ w p D e, En w p D e → e.Ok → e.n ≤ 100000 →
    Calls Try.prog 26 #[pt p] w fun r w' => ∃ u, r = .returned u ∧ Src w' u ((bytesOf e.n e.v).map B8) ∧ Fr [] w w' ∧ (∀ k, u.ownBlock = some k → k ∈ D ∨ w.heap.size ≤ k)
  putNil : ∀ w (c : Nat) (bit : Int), c < 65536 → Calls Try.prog 82 #[.pointer none, .int .u16 (c : Int), .int .i64 bit] w fun r w' => r = .returned (.int .i64 1) ∧ Fr [] w w'
  bytesNil : ∀ w, Calls Try.prog 26 #[.pointer none] w fun r w' => r = .returned (.slice none 0 0) ∧ Fr [] w w'

/-- The decoder's. De w p D bs d: at p there is a decoder of the bytes bs, at d; the blocks D bear the bytes. -/
structure DecSpec where
  De : World → Nat → List Nat → List UInt8 → Dec → Prop
  lt : ∀ {w p D bs d}, De w p D bs d → ∀ k ∈ p :: D, k < w.heap.size
  fr : ∀ {w w' p D bs d S}, De w p D bs d → Fr S w w' → (∀ k ∈ p :: D, k ∉ S) → De w' p D bs d
  short : ∀ w A (n c : Nat), n < 4 → Calls Try.prog 28 #[.slice A n c] w fun r w' => r = .returned (.tuple #[.pointer none, .int .i64 41]) ∧ Fr [] w w'
  opens : ∀ w A c bs, Src w (.slice A bs.length c) (bs.map B8) → 4 ≤ bs.length → bs.length ≤ 100000 →
    Calls Try.prog 28 #[.slice A bs.length c] w fun r w' => ∃ p D, r = .returned (.tuple #[pt p, .int .i64 0]) ∧ De w' p D bs (decOpen bs) ∧ Fr [] w w' ∧ w.heap.size ≤ p ∧ (∀ k ∈ D, k ≠ p) ∧ ∀ k ∈ D, w.heap.size ≤ k ∨ ∃ ad, A = some ad ∧ ad.block = k
  arg : ∀ w p D bs d (c : Nat), De w p D bs d → c < 65536 → ¬ rightC c → Calls Try.prog 87 #[pt p, .int .u16 (c : Int)] w fun r w' => r = .returned (.tuple #[.int .i64 0, .int .i64 1]) ∧ Fr [] w w'
  get : ∀ w p D bs d (c : Nat), De w p D bs d → rightC c → d.rest < 4294967296 → 16777216 ≤ d.r → d.r ≤ 4294967295 → d.i ≤ bs.length → bs.length ≤ 100000 →
    Calls Try.prog 87 #[pt p, .int .u16 (c : Int)] w fun r w' =>
      (∃ bit d', decGet bs d c = some (bit, d') ∧ r = .returned (.tuple #[.int .i64 (bit.toNat : Int), .int .i64 0]) ∧ De w' p D bs d' ∧ Fr [p] w w') ∨
      (decGet bs d c = none ∧ r = .returned (.tuple #[.int .i64 0, .int .i64 41]) ∧ Fr [] w w')
  ends : ∀ w p D bs d, De w p D bs d → Calls Try.prog 34 #[pt p] w fun r w' => r = .returned (.int .i64 (if d.i = bs.length ∧ d.rest = 0 then 0 else 41)) ∧ ∃ m, w' = w.drewN m
  getNil : ∀ w (c : Nat), c < 65536 → Calls Try.prog 87 #[.pointer none, .int .u16 (c : Int)] w fun r w' => r = .returned (.tuple #[.int .i64 0, .int .i64 1]) ∧ Fr [] w w'
  endNil : ∀ w, Calls Try.prog 34 #[.pointer none] w fun r w' => r = .returned (.int .i64 1) ∧ Fr [] w w'

/-- The chance's. -/
def NextSpec : Prop := ∀ w (c : Nat) (bit : Int), c < 65536 → -9223372036854775808 ≤ bit → bit ≤ 9223372036854775807 →
  Calls Try.prog 83 #[.int .u16 (c : Int), .int .i64 bit] w fun r w' => r = .returned (.int .u16 (nextC c (bit != 0) : Int)) ∧ Fr [] w w'

/-- A raw number as a chance. -/
def rawC (c : Int) : Nat := (c % 65536).toNat
theorem rawC_lt (c : Int) : rawC c < 65536 := by unfold rawC; omega
theorem and_raw (c : Int) : bits .and .i64 c 65535 = (rawC c : Int) := by
  show IntKind.i64.wrap ((BitVec.ofInt 64 c &&& BitVec.ofInt 64 65535).toNat : Int) = _
  rw [BitVec.toNat_and, BitVec.toNat_ofInt, show (BitVec.ofInt 64 65535).toNat = 2 ^ 16 - 1 by decide, Nat.and_two_pow_sub_one_eq_mod]
  have h : (c % ((2 ^ 64 : Nat) : Int)).toNat % 2 ^ 16 = rawC c := by unfold rawC; omega
  rw [h, IntWalk.i64_in _ (by have := rawC_lt c; omega)]

/-- The script's acts as cells: chance and bit of each. -/
def Acts2 (w : World) (A : Option Addr) (len : Nat) (acts : List (Int × Int)) : Prop :=
  acts.length = len ∧ ∀ (i : Nat) (c b : Int), acts[i]? = some (c, b) → -9223372036854775808 ≤ b ∧ b ≤ 9223372036854775807 ∧ ∃ g o, A = some ⟨g, o, none⟩ ∧
    w.cell? ⟨g, o + i * 2, none⟩ = some (.int .i64 c) ∧ w.cell? ⟨g, o + i * 2 + 1, none⟩ = some (.int .i64 b)

theorem Acts2.fr {w w' : World} {A : Option Addr} {len : Nat} {acts : List (Int × Int)} (h : Acts2 w A len acts) (hf : Fr [] w w') : Acts2 w' A len acts := by
  refine ⟨h.1, fun i c b hi => ?_⟩
  obtain ⟨l1, l2, g, o, rfl, h1, h2⟩ := h.2 i c b hi
  have f : ∀ (j : Nat) (u : Value), w.cell? ⟨g, j, none⟩ = some u → w'.cell? ⟨g, j, none⟩ = some u := fun j u hu => (hf.cell (World.block_lt_of_cell? w _ hu) (by simp)).trans hu
  exact ⟨l1, l2, g, o, rfl, f _ _ h1, f _ _ h2⟩

section
variable {H : Type} {enc : TypeId × Value → H} {w : World} {base : Nat} {spare : Nat → Bool} {held : Bool}
end

/-! The live question. -/
def e1 : Enc := encPut encNew 1024 true
def e2 : Enc := encPut e1 1024 false
def liveBytes : List UInt8 := [127, 255, 252, 0]
theorem live_bytes : bytesOf e2.n e2.v = liveBytes := by decide +kernel
theorem live_ok : encNew.Ok ∧ e1.Ok ∧ e2.Ok := by
  have h1 := encPut_ok encNew_ok (c := 1024) (by decide) true
  exact ⟨encNew_ok, h1, encPut_ok h1 (by decide) false⟩
def d1 : Dec := ⟨4, 0, 2147484671⟩
def d2 : Dec := ⟨4, 0, 1073741824⟩
theorem live_get1 : decGet liveBytes (decOpen liveBytes) 1024 = some (true, d1) := by decide +kernel
theorem live_get2 : decGet liveBytes d1 1024 = some (false, d2) := by decide +kernel

end Go.Proofs.Ytendcmdpmohacaa

/-
  A region whose order is open: what is known of the worlds to come may grow as its calls are made. No program text here.
-/
namespace Go.Proofs.Ytendcmdpmohacaa

theorem wpAnyH_add {P : Program} {md : Region.Mode} {ops : Array Oper} {Q : Exit → Act → World → Prop} {S : World → Prop} (F : World → Prop) :
    ∀ (fuel : Nat) (listed : Array Bool) (a : Act) (w : World), wpAnyH P md ops Q (fun W => S W ∧ F W) fuel listed a w → wpAnyH P md ops Q S fuel listed a w
  | 0, _, _, _, h => h
  | fuel + 1, _, _, _, h => ⟨h.1, fun i hi => wpOp_mono (fun _ _ h' => ⟨h'.1.1, wpAnyH_add F fuel _ _ _ h'.2⟩) (h.2 i hi)⟩

section
variable {P : Program} {ops : Array Oper} {Q : Exit → Act → World → Prop} {md : Region.Mode} {S : World → Prop}
theorem op_at {i : Nat} {o : Oper} (h : ops.toList[i]? = some o) : ops[i]? = some o := by simpa using h
/-- The operation is found in the list itself. -/
theorem wpAnyH_pick (i : Nat) {oi : Oper} {v : Value} {fuel : Nat} {listed : Array Bool} {a : Act} {w : World} (hi : ops.toList[i]? = some oi)
    (hs : Region.noSelect ops = true) (hf : Region.free md ops listed i = true) (hr : (Region.ready md ops listed).contains i = true)
    (hQ : ∀ c a w, Q (.panic c) (a.put oi.dst v) w → Q (.panic c) a w) (hS : S w) (hg : Region.wanted oi (yielded ops a.tmps) = true) (hy : ∀ w, S w → (execOp a.eval oi).run P w = .ok (.value v) w)
    (h : wpAnyH P md ops Q S fuel (listed.setIfInBounds i true) (a.put oi.dst v) w) : wpAnyH P md ops Q S (fuel + 1) listed a w :=
  wpAnyH_take (op_at hi) hs hf hr hQ (.inl ⟨hg, hy⟩) hS h
/-- An operation behind a test that did not hold does nothing. -/
theorem wpAnyH_skip (i : Nat) {oi : Oper} {fuel : Nat} {listed : Array Bool} {a : Act} {w : World} (hi : ops.toList[i]? = some oi)
    (hs : Region.noSelect ops = true) (hf : Region.free md ops listed i = true) (hr : (Region.ready md ops listed).contains i = true)
    (hQ : ∀ c a w, Q (.panic c) (a.put oi.dst undef) w → Q (.panic c) a w) (hS : S w) (hg : Region.wanted oi (yielded ops a.tmps) = false)
    (h : wpAnyH P md ops Q S fuel (listed.setIfInBounds i true) (a.put oi.dst undef) w) : wpAnyH P md ops Q S (fuel + 1) listed a w :=
  wpAnyH_take (op_at hi) hs hf hr hQ (.inr ⟨hg, rfl⟩) hS h
theorem AllReadyH_pick {fuel : Nat} {listed : Array Bool} {a : Act} {w : World} {i : Nat} {o : Oper} {rs : List Nat} (ho : ops.toList[i]? = some o)
    (h : ∀ K' : Act → World → Prop, Shut (∀ a w, S w → (S w → wpAnyH P md ops Q S fuel (listed.setIfInBounds i true) a w) → K' a w) → if Region.wanted o (yielded ops a.tmps) = true then Oper.wp P o a w K' Q else K' (a.put o.dst undef) w)
    (hs : AllReadyH P md ops Q S fuel listed a w rs) : AllReadyH P md ops Q S fuel listed a w (i :: rs) := AllReadyH.cons (op_at ho) h hs
end
end Go.Proofs.Ytendcmdpmohacaa

/-
  An encoder in memory that is new since the law's beginning, and what a put makes of it, out of the coder's contracts.
-/
namespace Go.Proofs.Ytendcmdpmohacaa
open Go.RowKit

structure Live (X : EncSpec) (w0 w : World) (p : Nat) (D : List Nat) (e : Enc) : Prop where
  en : X.En w p D e
  fr : Fr [] w0 w
  new : ∀ k ∈ p :: D, w0.heap.size ≤ k
  ok : e.Ok
section
variable {X : EncSpec} {w0 w w' : World} {p : Nat} {D D' : List Nat} {e e' : Enc}
theorem Live.fr0 (h : Live X w0 w p D e) (hf : Fr [] w w') : Live X w0 w' p D e := ⟨X.fr h.en hf (by simp), h.fr.trans hf (by simp), h.new, h.ok⟩
theorem Live.put (h : Live X w0 w p D e) (hE : X.En w' p D' e') (hF : Fr (p :: D) w w') (hD : ∀ k ∈ D', k ∈ D ∨ w.heap.size ≤ k) (ho : e'.Ok) : Live X w0 w' p D' e' := by
  refine ⟨hE, h.fr.trans hF (fun x hx => .inr (h.new x hx)), fun k hk => ?_, ho⟩
  rcases List.mem_cons.1 hk with rfl | hk
  · exact h.new _ (List.mem_cons_self ..)
  · rcases hD k hk with h1 | h1
    · exact h.new k (List.mem_cons_of_mem _ h1)
    · exact Nat.le_trans h.fr.size h1
end

/-- What a put answers, and the code behind it. -/
def encAct (e : Enc) (c : Nat) (bit : Int) : Int × Enc := if rightC c ∧ (bit = 0 ∨ bit = 1) then (0, encPut e c (bit == 1)) else (1, e)
theorem encAct_n (e : Enc) (c : Nat) (bit : Int) : (encAct e c bit).2.n ≤ e.n + 1 := by
  unfold encAct
  split
  · exact (encPut_n _ _ _).2
  · simp
theorem encAct_ok {e : Enc} (he : e.Ok) (c : Nat) (bit : Int) : (encAct e c bit).2.Ok := by
  unfold encAct
  split
  · rename_i h; exact encPut_ok he h.1 _
  · exact he
theorem encAct_err (e : Enc) (c : Nat) (bit : Int) : ((encAct e c bit).1 = 0 ∧ (rightC c ∧ (bit = 0 ∨ bit = 1))) ∨ ((encAct e c bit).1 = 1 ∧ (encAct e c bit).2 = e) := by
  unfold encAct
  split
  · rename_i h; exact .inl ⟨rfl, h⟩
  · exact .inr ⟨rfl, rfl⟩

theorem put_total {X : EncSpec} {w0 : World} (W : World) (p : Nat) (D : List Nat) (e : Enc) (c : Nat) (bit : Int) (h : Live X w0 W p D e) (hc : c < 65536) (h1 : -9223372036854775808 ≤ bit) (h2 : bit ≤ 9223372036854775807) (hn : e.n ≤ 100000) :
    Calls Try.prog 82 #[pt p, .int .u16 (c : Int), .int .i64 bit] W fun r W' => r = .returned (.int .i64 (encAct e c bit).1) ∧ ∃ D', Live X w0 W' p D' (encAct e c bit).2 ∧ Fr (p :: D) W W' ∧ ∀ k ∈ D', k ∈ D ∨ W.heap.size ≤ k := by
  unfold encAct
  by_cases hg : rightC c ∧ (bit = 0 ∨ bit = 1)
  · rw [if_pos hg]
    have hb : bit = ((bit == 1).toNat : Int) := by rcases hg.2 with rfl | rfl <;> rfl
    have := X.put W p D e c (bit == 1) h.en h.ok hg.1 hn
    rw [← hb] at this
    exact this.mono fun r W' ⟨hr, D', hE, hF, hD⟩ => ⟨hr, D', h.put hE hF hD (encPut_ok h.ok hg.1 _), hF, hD⟩
  · rw [if_neg hg]
    exact (X.bad W p D e c bit h.en hc h1 h2 hg).mono fun r W' ⟨hr, hF⟩ => ⟨hr, D, h.fr0 hF, hF.mono (by simp), fun k hk => .inl hk⟩

theorem new_live {X : EncSpec} {w0 : World} (W : World) (hW : Fr [] w0 W) :
    Calls Try.prog 21 #[] W fun r W' => ∃ p D, r = .returned (pt p) ∧ Live X w0 W' p D encNew ∧ Fr [] W W' ∧ ∀ k ∈ p :: D, W.heap.size ≤ k :=
  (X.new W).mono fun r W' ⟨p, D, hr, hE, hF, hn⟩ => ⟨p, D, hr, ⟨hE, hW.trans hF (by simp), fun k hk => Nat.le_trans hW.size (hn k hk), encNew_ok⟩, hF, hn⟩

/-- The bytes told are as many as the code has. -/
theorem bytes_live {X : EncSpec} {w0 : World} (W : World) (p : Nat) (D : List Nat) (e : Enc) (h : Live X w0 W p D e) (hn : e.n ≤ 100000) :
    Calls Try.prog 26 #[pt p] W fun r W' => ∃ A c, r = .returned (.slice A e.n c) ∧ Src W' (.slice A e.n c) ((bytesOf e.n e.v).map B8) ∧ Live X w0 W' p D e ∧ Fr [] W W' :=
  (X.bytes W p D e h.en h.ok hn).mono fun r W' ⟨u, hr, hS, hF, _⟩ => by
    obtain ⟨A, c, rfl⟩ := hS.slice
    rw [bytesOf_length] at hS hr
    exact ⟨A, c, hr, hS, h.fr0 hF, hF⟩
end Go.Proofs.Ytendcmdpmohacaa

/-
  A number that an int can be. Plain: no program text.
-/
namespace Go.Proofs.Ytendcmdpmohacaa
def InI (x : Int) : Prop := -9223372036854775808 ≤ x ∧ x ≤ 9223372036854775807
end Go.Proofs.Ytendcmdpmohacaa

/-
  What the laws of layer 5 ask of the book: contracts of its exported functions, over a predicate of its own. No condition.
-/
namespace Go.Proofs.Ytendcmdpmohacaa
open Go.RowKit


/-- What putting an act answers, and does. -/
def PutPost (Bo : World → Nat → Chs → Prop) (En : World → Nat → List Nat → Enc → Prop) (w : World) (b : Nat) (B : Chs) (p : Nat) (D : List Nat) (e : Enc) (k t n v : Int) (r : Ending) (w' : World) : Prop :=
  match actEvs k t n v with
  | none => r = .returned (.int .i64 1) ∧ Fr [] w w'
  | some l => r = .returned (.int .i64 0) ∧ ∃ D', Bo w' b (learned t.toNat B l) ∧ En w' p D' (puts e (track t.toNat B l)) ∧ Fr (b :: p :: D) w w' ∧ ∀ k ∈ D', k ∈ D ∨ w.heap.size ≤ k

/-- What getting one answers, and does. -/
def GetPost (Bo : World → Nat → Chs → Prop) (De : World → Nat → List Nat → List UInt8 → Dec → Prop) (w : World) (b y : Nat) (K : List Nat) (bs : List UInt8) (g : Got) (r : Ending) (w' : World) : Prop :=
  match g with
  | .bad e => r = .returned (.tuple #[.int .i64 0, .int .i64 e]) ∧ Fr [b, y] w w' ∧ (e = 1 → Fr [] w w')
  | .ok v B d => r = .returned (.tuple #[.int .i64 v, .int .i64 0]) ∧ Bo w' b B ∧ De w' y K bs d ∧ Fr [b, y] w w'

/-- Have two books the same chances? -/
def sameB (B C : Chs) : Bool := (List.range 592).all fun j => B j == C j
theorem sameB_refl (B : Chs) : sameB B B = true := by simp [sameB]
theorem sameB_false {B C : Chs} {j : Nat} (hj : j < 592) (h : B j ≠ C j) : sameB B C = false := by
  cases hs : sameB B C with
  | false => rfl
  | true =>
    unfold sameB at hs
    rw [List.all_eq_true] at hs
    have := hs j (by simpa using hj)
    simp at this
    exact absurd this h

/-- A script's act: kind, topic, ways, number. -/
abbrev Act5 := Int × Int × Int × Int
def InA (a : Act5) : Prop := InI a.1 ∧ InI a.2.1 ∧ InI a.2.2.1 ∧ InI a.2.2.2
def vAct (a : Act5) : Value := .agg #[.int .i64 a.1, .int .i64 a.2.1, .int .i64 a.2.2.1, .int .i64 a.2.2.2]
def evsOf (a : Act5) : Option (List Ev) := actEvs a.1 a.2.1 a.2.2.1 a.2.2.2
def topicOf (a : Act5) : Nat := a.2.1.toNat
def gotOf (bs : List UInt8) (a : Act5) (B : Chs) (d : Dec) : Got := getAct bs a.1 a.2.1 a.2.2.1 B d
theorem actEvs_n1 (t n v : Int) : actEvs 1 t n v = actEvs 1 t 0 v := rfl
theorem actEvs_n2 (t n v : Int) : actEvs 2 t n v = actEvs 2 t 0 v := rfl
theorem actEvs_k3 {k : Int} (h1 : k ≠ 1) (h2 : k ≠ 2) (t n v : Int) : actEvs k t n v = actEvs 3 t n v := by
  unfold actEvs
  rw [if_neg h1, if_neg h2]
  rfl
theorem getAct_n1 (bs : List UInt8) (t n : Int) (B : Chs) (d : Dec) : getAct bs 1 t n B d = getAct bs 1 t 0 B d := rfl
theorem getAct_n2 (bs : List UInt8) (t n : Int) (B : Chs) (d : Dec) : getAct bs 2 t n B d = getAct bs 2 t 0 B d := rfl
theorem getAct_k3 {k : Int} (h1 : k ≠ 1) (h2 : k ≠ 2) (bs : List UInt8) (t n : Int) (B : Chs) (d : Dec) : getAct bs k t n B d = getAct bs 3 t n B d := by
  unfold getAct
  rw [if_neg h1, if_neg h2]
  rfl

/-- The book, the chances of a new one after what was put, and back: the live question's numbers. -/
def liveEvs1 : List Ev := sgnEvs (-70)
def liveEvs2 : List Ev := oneEvs 5 4
end Go.Proofs.Ytendcmdpmohacaa

/-
  Plain facts of numbers' codes, foldings and of what is got of bits; no program text here.
-/
namespace Go.Proofs.Ytendcmdpmohacaa
open Go.RowKit

/-- How many bits a number's code has. -/
def clen (v : Nat) : Nat := 2 * (v + 1).log2 + 1
/-- A number's code. -/
def code (v : Nat) : List Bool := digits (v + 1) (clen v)
@[simp] theorem code_length (v : Nat) : (code v).length = clen v := by simp [code]

/-- How many bits 0 come first. -/
def zeros : List Bool → Nat
  | false :: l => zeros l + 1
  | _ => 0

/-- What a get answers of the bits l at i: the number, the error, and where the reader is behind it. -/
def gget (l : List Bool) (i : Nat) : Nat × Int × Nat :=
  if 32 ≤ zeros (l.drop i) then (0, 21, i) else if l.length < i + (2 * zeros (l.drop i) + 1) then (0, 11, i)
  else (number ((l.drop i).take (2 * zeros (l.drop i) + 1)) - 1, 0, i + (2 * zeros (l.drop i) + 1))

theorem log2_small {v : Nat} (h : v ≤ 4294967294) : (v + 1).log2 ≤ 31 := by
  have := (Nat.log2_lt (n := v + 1) (k := 32) (by omega)).2 (by omega)
  omega
theorem clen_le {v : Nat} (h : v ≤ 4294967294) : clen v ≤ 63 := by have := log2_small h; unfold clen; omega
theorem clen_pos (v : Nat) : 1 ≤ clen v := by unfold clen; omega
theorem lt_clen (v : Nat) : v + 1 < 2 ^ clen v := Nat.lt_of_lt_of_le Nat.lt_log2_self (Nat.pow_le_pow_right (by omega) (by unfold clen; omega))
theorem number_code (v : Nat) : number (code v) = v + 1 := number_digits_lt (lt_clen v)

theorem zeros_le (l : List Bool) : zeros l ≤ l.length := by
  induction l with
  | nil => simp [zeros]
  | cons b l ih => cases b <;> simp [zeros]; omega
theorem zeros_at (l : List Bool) : ∀ k, k < zeros l → l.getD k false = false := by
  induction l with
  | nil => intro k hk; simp
  | cons b l ih =>
    intro k hk
    cases b
    · cases k with
      | zero => rfl
      | succ k => simpa using ih k (by simp [zeros] at hk; omega)
    · simp [zeros] at hk
theorem zeros_one (l : List Bool) (h : zeros l < l.length) : l.getD (zeros l) false = true := by
  induction l with
  | nil => simp at h
  | cons b l ih =>
    cases b
    · simpa [zeros] using ih (by simpa [zeros] using h)
    · rfl
/-- Bits 0, as many as named, and a bit 1 behind them. -/
theorem zeros_eq (l : List Bool) (n : Nat) (h0 : ∀ k, k < n → l.getD k false = false) (h1 : l.getD n false = true) : zeros l = n := by
  have hn : n < l.length := by
    rcases Nat.lt_or_ge n l.length with h | h
    · exact h
    · rw [List.getD_eq_getElem?_getD, List.getElem?_eq_none h] at h1; simp at h1
  rcases Nat.lt_trichotomy (zeros l) n with h | h | h
  · have := zeros_one l (by omega)
    rw [h0 _ h] at this; cases this
  · exact h
  · have := zeros_at l n h
    rw [h1] at this; cases this
theorem le_zeros (l : List Bool) (n : Nat) (hn : n ≤ l.length) (h0 : ∀ k, k < n → l.getD k false = false) : n ≤ zeros l := by
  rcases Nat.lt_or_ge (zeros l) n with h | h
  · have := zeros_one l (by omega)
    rw [h0 _ h] at this; cases this
  · exact h

theorem number_zeros (l : List Bool) (n : Nat) (hn : n ≤ l.length) (h0 : ∀ k, k < n → l.getD k false = false) : number l = number (l.drop n) := by
  have : number (l.take n) = 0 := by
    rw [number_zero_iff]
    intro b hb
    obtain ⟨k, hk, e⟩ := List.getElem_of_mem hb
    have h2 := h0 k (by simp at hk; omega)
    rw [List.getD_eq_getElem?_getD, List.getElem?_eq_getElem (by simp at hk; omega)] at h2
    simp at e h2
    rw [← e]; exact h2
  conv => lhs; rw [← List.take_append_drop n l, number_app, this]
  simp

/-- The number that is got is at least 1 and has no more bits than come behind the bits 0. -/
theorem got_bounds (l : List Bool) (z : Nat) (hz : zeros l = z) (hl : 2 * z + 1 ≤ l.length) : 1 ≤ number (l.take (2 * z + 1)) ∧ number (l.take (2 * z + 1)) < 2 ^ (z + 1) := by
  have hT : (l.take (2 * z + 1)).length = 2 * z + 1 := by simp; omega
  have hget : ∀ k, k < 2 * z + 1 → (l.take (2 * z + 1)).getD k false = l.getD k false := by
    intro k hk
    simp [List.getD_eq_getElem?_getD, hk]
  constructor
  · rcases Nat.eq_zero_or_pos (number (l.take (2 * z + 1))) with h | h
    · rw [number_zero_iff] at h
      have h1 := zeros_one l (by omega)
      rw [hz, ← hget z (by omega), List.getD_eq_getElem?_getD, List.getElem?_eq_getElem (by omega)] at h1
      have := h _ (List.getElem_mem (by omega : z < (l.take (2 * z + 1)).length))
      simp at h1 this
      rw [this] at h1; cases h1
    · exact h
  · rw [number_zeros _ z (by omega) (fun k hk => by rw [hget k (by omega)]; exact zeros_at l k (by omega))]
    have := number_lt ((l.take (2 * z + 1)).drop z)
    rw [List.length_drop, hT, show 2 * z + 1 - z = z + 1 by omega] at this
    exact this

theorem gget_le (l : List Bool) (i : Nat) (hi : i ≤ l.length) : (gget l i).2.2 ≤ l.length ∧ i ≤ (gget l i).2.2 := by
  unfold gget
  split
  · exact ⟨hi, Nat.le_refl _⟩
  · split
    · exact ⟨hi, Nat.le_refl _⟩
    · simp only; omega
theorem gget_num (l : List Bool) (i : Nat) : (gget l i).1 ≤ 4294967294 := by
  unfold gget
  split
  · simp
  · split
    · simp
    · rename_i h1 h2
      have hb := (got_bounds (l.drop i) _ rfl (by simp; omega)).2
      have : 2 ^ (zeros (l.drop i) + 1) ≤ 2 ^ 32 := Nat.pow_le_pow_right (by omega) (by omega)
      simp only; omega

theorem code_getD (v k : Nat) : (code v).getD k false = (decide (k < clen v) && (v + 1).testBit (clen v - 1 - k)) := by rw [code, digits_getD]
theorem code_zeros (v : Nat) (m : List Bool) : zeros (code v ++ m) = (v + 1).log2 := by
  apply zeros_eq
  · intro k hk
    rw [getD_append', if_pos (by simp [clen]; omega), code_getD]
    rw [Nat.testBit_lt_two_pow]
    · simp
    · exact Nat.lt_of_lt_of_le Nat.lt_log2_self (Nat.pow_le_pow_right (by omega) (by unfold clen; omega))
  · rw [getD_append', if_pos (by simp [clen]; omega), code_getD, show clen v - 1 - (v + 1).log2 = (v + 1).log2 by unfold clen; omega]
    have h1 : 2 ^ (v + 1).log2 ≤ v + 1 := Nat.log2_self_le (by omega)
    have h2 : v + 1 < 2 ^ ((v + 1).log2 + 1) := Nat.lt_log2_self
    have h3 : (v + 1) / 2 ^ (v + 1).log2 = 1 := by
      rw [Nat.pow_succ] at h2
      exact Nat.div_eq_of_lt_le (by omega) (by omega)
    rw [Nat.testBit_eq_decide_div_mod_eq, h3]
    have h4 : (v + 1).log2 < clen v := by unfold clen; omega
    simp [h4]

/-- What was put is got. -/
theorem gget_code (l : List Bool) (i v : Nat) (m : List Bool) (hv : v ≤ 4294967294) (h : l.drop i = code v ++ m) (hi : i ≤ l.length) : gget l i = (v, 0, i + clen v) := by
  have hl : l.length = i + clen v + m.length := by
    have := congrArg List.length h
    simp at this; omega
  unfold gget
  rw [h, code_zeros]
  have h1 := log2_small hv
  rw [if_neg (by omega), if_neg (by unfold clen at hl; omega)]
  have e : 2 * (v + 1).log2 + 1 = (code v).length := by simp [clen]
  rw [show 2 * (v + 1).log2 + 1 = (code v).length by simp [clen], List.take_left, number_code]
  simp

/-- Whether a number with a sign folds. -/
def folds (x : Int) : Prop := -2147483647 ≤ x ∧ x ≤ 2147483647
instance (x : Int) : Decidable (folds x) := inferInstanceAs (Decidable (_ ∧ _))
/-- What it folds into. -/
def folded (x : Int) : Nat := if 0 < x then (2 * x - 1).toNat else (-2 * x).toNat
/-- The number that folds into v. -/
def unfolded (v : Nat) : Int := if 4294967294 < v then 0 else if v % 2 = 1 then ((v + 1) / 2 : Nat) else -((v / 2 : Nat) : Int)
theorem folded_le {x : Int} (h : folds x) : folded x ≤ 4294967294 := by unfold folds at h; unfold folded; split <;> omega
theorem unfolded_folded {x : Int} (h : folds x) : unfolded (folded x) = x := by
  have := folded_le h
  unfold folds at h
  unfold unfolded
  rw [if_neg (by omega)]
  unfold folded
  split <;> split <;> omega

theorem i64_xor_ones (a : Int) (h0 : -9223372036854775808 ≤ a) (h1 : a ≤ 9223372036854775807) : bits .xor .i64 a (-1) = -1 - a := by
  show IntKind.i64.wrap ((BitVec.ofInt 64 a ^^^ BitVec.ofInt 64 (-1)).toNat : Int) = _
  rw [show BitVec.ofInt 64 (-1) = BitVec.allOnes 64 by decide, BitVec.xor_allOnes, BitVec.toNat_not, BitVec.toNat_ofInt, IntKind.wrap_i64]
  omega
theorem i64_xor_none (a : Int) (h0 : -9223372036854775808 ≤ a) (h1 : a ≤ 9223372036854775807) : bits .xor .i64 a 0 = a := by
  show IntKind.i64.wrap ((BitVec.ofInt 64 a ^^^ BitVec.ofInt 64 0).toNat : Int) = _
  rw [show BitVec.ofInt 64 0 = 0#64 by decide, BitVec.xor_zero, BitVec.toNat_ofInt, IntKind.wrap_i64]
  omega
theorem u64_and_one (v : Nat) (h : v < 18446744073709551616) : bits .and .u64 (v : Int) 1 = ((v % 2 : Nat) : Int) := by
  rw [show (1 : Int) = ((1 : Nat) : Int) by rfl, u64_and_nat _ _ h (by omega)]
  rw [show (1 : Nat) = 2 ^ 1 - 1 by rfl, Nat.and_two_pow_sub_one_eq_mod]

/-- Of two numbers' codes the first bits, as many as the shorter has, are one number only for one number. -/
theorem code_prefix {a b : Nat} {m : Nat} (ha : m ≤ clen a) (hb : m ≤ clen b) (hm : m = clen a ∨ m = clen b) (h : number ((code a).take m) = number ((code b).take m)) : a = b := by
  have e : (code a).take m = (code b).take m := by
    have h1 : ((code a).take m).length = m := by simp; omega
    have h2 : ((code b).take m).length = m := by simp; omega
    have k1 := digits_number ((code a).take m)
    have k2 := digits_number ((code b).take m)
    rw [h1] at k1; rw [h2] at k2
    rw [← k1, ← k2, h]
  have hz : (a + 1).log2 = (b + 1).log2 := by
    rcases hm with rfl | rfl
    · have h1 : code a = (code b).take (clen a) := by
        rw [← e]; exact (List.take_of_length_le (by simp)).symm
      have h2 : code b = code a ++ (code b).drop (clen a) := by
        conv => lhs; rw [← List.take_append_drop (clen a) (code b)]
        rw [← h1]
      have h3 := code_zeros b []
      rw [List.append_nil, h2, code_zeros] at h3
      exact h3
    · have h1 : code b = (code a).take (clen b) := by
        rw [e]; exact (List.take_of_length_le (by simp)).symm
      have h2 : code a = code b ++ (code a).drop (clen b) := by
        conv => lhs; rw [← List.take_append_drop (clen b) (code a)]
        rw [← h1]
      have h3 := code_zeros a []
      rw [List.append_nil, h2, code_zeros] at h3
      exact h3.symm
  have hl : clen a = clen b := by unfold clen; rw [hz]
  have hm' : m = clen a ∧ m = clen b := by rcases hm with rfl | rfl <;> omega
  have h1 : (code a).take m = code a := List.take_of_length_le (by simp; omega)
  have h2 : (code b).take m = code b := List.take_of_length_le (by simp; omega)
  rw [h1, h2, number_code, number_code] at h
  omega
theorem clen_mono {a b : Nat} (h : a ≤ b) : clen a ≤ clen b := by
  unfold clen
  have h1 : 2 ^ (a + 1).log2 ≤ b + 1 := Nat.le_trans (Nat.log2_self_le (by omega)) (by omega)
  have := (Nat.le_log2 (by omega)).2 h1
  omega
end Go.Proofs.Ytendcmdpmohacaa

/-
  Contracts of the landed book: where its chances lie; New, Copy, Same, isTopic, isChoice, isFirst, math/bits.Len below 2^32. Conditions: numbers lie in their types' ranges.
-/
namespace Go.Proofs.Ytendcmdpmohacaa
open Go.RowKit

/-! 592 chances in a row. -/
def arrC (n : Nat) (f : Nat → Nat) : Array Value := ((List.range n).map fun i => Value.int .u16 (f i : Int)).toArray
theorem arrC_size (n : Nat) (f : Nat → Nat) : (arrC n f).size = n := by simp [arrC]
theorem arrC_get {n : Nat} (f : Nat → Nat) {i : Nat} (h : i < n) : (arrC n f)[i]? = some (.int .u16 (f i : Int)) := by simp [arrC, h]
theorem arrC_congr {n : Nat} {f g : Nat → Nat} (h : ∀ i, i < n → f i = g i) : arrC n f = arrC n g := by
  unfold arrC
  congr 1
  apply List.map_congr_left
  intro i hi
  rw [h i (by simpa using hi)]
theorem arrC_set (n : Nat) (f : Nat → Nat) (i v : Nat) : (arrC n f).setIfInBounds i (.int .u16 (v : Int)) = arrC n (upd f i v) := by
  apply Array.ext_getElem?
  intro j
  rw [Array.getElem?_setIfInBounds, arrC_size]
  by_cases h : j < n
  · rw [arrC_get _ h, arrC_get _ h]
    unfold upd
    by_cases hj : i = j
    · subst hj; simp [h]
    · rw [if_neg hj, if_neg (fun e => hj e.symm)]
  · have : ∀ f, (arrC n f)[j]? = none := fun f => by rw [Array.getElem?_eq_none]; rw [arrC_size]; omega
    rw [this, this]
    split <;> simp_all
theorem arrC_zero (n : Nat) : Array.replicate n (Value.int .u16 0) = arrC n fun _ => 0 := by
  apply Array.ext_getElem?
  intro i
  by_cases h : i < n
  · rw [arrC_get _ h]; simp [h]
  · rw [Array.getElem?_eq_none (by simpa using h), Array.getElem?_eq_none (by rw [arrC_size]; omega)]
theorem arrC_one (n : Nat) (f : Nat → Nat) : (arrC n f).all (·.oneCell') = true := by
  apply Array.all_eq_true_iff_forall_mem.2
  intro v hv
  simp only [arrC, List.mem_toArray, List.mem_map] at hv
  obtain ⟨i, -, rfl⟩ := hv
  rfl
def Bk (w : World) (q : Nat) (B : Chs) : Prop := Blk w q 74 (arrC 592 B)
theorem Bk.lt {w : World} {q : Nat} {B : Chs} (h : Bk w q B) : q < w.heap.size := Blk.lt h
theorem Bk.fr {w w' : World} {q : Nat} {B : Chs} {S : List Nat} (h : Bk w q B) (hf : Fr S w w') (hq : q ∉ S) : Bk w' q B := Blk.fr h hf hq
theorem Bk.cell {w : World} {q : Nat} {B : Chs} (h : Bk w q B) {j : Nat} (hj : j < 592) : w.cell? ⟨q, j, none⟩ = some (.int .u16 (B j : Int)) := by rw [Blk.cell h, arrC_get _ hj]
theorem Bk.set {w : World} {q : Nat} {B : Chs} (h : Bk w q B) (j x : Nat) : Bk (w.setCell ⟨q, j, none⟩ (.int .u16 (x : Int))) q (upd B j x) := by
  have := Blk.set_ h j (.int .u16 (x : Int))
  rw [arrC_set] at this
  exact this

theorem zeroBk : (Try.prog.info? 74).map (fun i => (i.zero, i.size)) = some (some (.agg (Array.replicate 592 (.int .u16 0))), 592) := by kernel_rfl
theorem sizePs : (Try.prog.info? 72).map (·.size) = some 592 := by kernel_rfl
theorem undPs : Try.prog.underlying 72 = some (.array 16 71) := by kernel_rfl
theorem sizePg : (Try.prog.info? 71).map (·.size) = some 37 := by kernel_rfl
theorem undPg : Try.prog.underlying 71 = some (.array 37 69) := by kernel_rfl
theorem sizeCh : (Try.prog.info? 69).map (·.size) = some 1 := by kernel_rfl
theorem undCh : Try.prog.underlying 69 = some (.int .u16) := by kernel_rfl

set_option maxRecDepth 20000 in
theorem bnew_any (w : World) :
    Calls Try.prog 20 #[] w fun e w' => ∃ q, e = .returned (pt q) ∧ Bk w' q newBook ∧ Fr [] w w' ∧ w.heap.size ≤ q := by
  have z := (zero_of_info zeroBk).1
  go_enter Try.func20, Try.ntmps20
  go_upto_region 2 with fail
  have hF : Fr [] w (w.alloc (Obj.cells (Array.replicate 592 (Value.int IntKind.u16 0)) 74)) := (Fr.refl _ _).alloc _
  have hB := Blk.new w 74 (Array.replicate 592 (Value.int IntKind.u16 0))
  generalize hw2 : (w.alloc (Obj.cells (Array.replicate 592 (Value.int IntKind.u16 0)) 74)) = w2 at hF hB ⊢
  clear hw2 z
  rw [arrC_zero] at hB
  obtain ⟨q, hq⟩ : ∃ q, q = w.heap.size := ⟨_, rfl⟩
  rw [← hq] at hB ⊢
  have hB0 : Bk w2 q (fun j => if j < 37 * 0 then 1024 else 0) := by
    unfold Bk
    rw [arrC_congr (g := fun _ => 0) (fun i _ => by simp)]
    exact hB
  have HB0 := Lib.hid hB0
  have HF0 := Lib.hid hF
  have Hq := Lib.hid hq
  clear hB0 hF hq hB
  go_wp2_with fail
  go_loopw [6] (fun s2 wr => ∃ t : Nat, t ≤ 16 ∧ s2 = .int .i64 (t : Int) ∧ Bk wr q (fun j => if j < 37 * t then 1024 else 0) ∧ Fr [] w wr) (fun s2 _ => 16 - (intOf s2).toNat)
  case atStart => exact ⟨0, by omega, rfl, HB0.out, HF0.out⟩
  case round =>
    obtain ⟨t, ht, rfl, hB, hF⟩ := hrel
    have HB := Lib.hid hB; have HF := Lib.hid hF
    clear hB hF HB0 HF0
    by_cases h16 : t < 16
    · have e1 : decide ((t : Int) < 16) = true := by simp; omega
      go_wp2_with fail
      go_loopw [9] (fun s3 wr => ∃ i : Nat, i ≤ 37 ∧ s3 = .int .i64 (i : Int) ∧ Bk wr q (fun j => if j < 37 * t + i then 1024 else 0) ∧ Fr [] w wr) (fun s3 _ => 37 - (intOf s3).toNat)
      case atStart => exact ⟨0, by omega, rfl, HB.out, HF.out⟩
      case round =>
        obtain ⟨i, hi, rfl, hB, hF⟩ := hrel
        have HB2 := Lib.hid hB; have HF2 := Lib.hid hF
        clear hB hF HB HF
        by_cases h37 : i < 37
        · have e2 : decide ((i : Int) < 37) = true := by simp; omega
          have c0 := HB2.out.cell (j := t * 37 + i) (by omega)
          have f0 := Blk.frozen HB2.out (t * 37 + i)
          go_wp2_with fail
          refine ⟨⟨i + 1, by omega, by simp, ?_, HF2.out.setCell (.inr (by rw [Hq.out]; exact Nat.le_refl _)) _⟩, by simp [intOf]; omega⟩
          have h := HB2.out.set (t * 37 + i) 1024
          unfold Bk at h ⊢
          rw [arrC_congr (g := fun j => if j < 37 * t + (i + 1) then 1024 else 0)] at h
          · exact h
          · intro j _
            unfold upd
            by_cases hj : j = t * 37 + i
            · rw [if_pos hj, if_pos (by omega)]
            · rw [if_neg hj]
              show (if j < 37 * t + i then 1024 else 0) = _
              by_cases hl : j < 37 * t + i
              · rw [if_pos hl, if_pos (by omega)]
              · rw [if_neg hl, if_neg (by omega)]
        · have e2 : decide ((i : Int) < 37) = false := by simp; omega
          obtain rfl : i = 37 := by omega
          have hB3 : Bk wr q (fun j => if j < 37 * (t + 1) then 1024 else 0) := by
            rw [show 37 * (t + 1) = 37 * t + 37 by omega]
            exact HB2.out
          have HB3 := Lib.hid hB3
          clear hB3 HB2
          go_wp2_with fail
          exact ⟨⟨t + 1, by omega, by simp, HB3.out, HF2.out⟩, by simp [intOf]; omega⟩
    · have e1 : decide ((t : Int) < 16) = false := by simp; omega
      obtain rfl : t = 16 := by omega
      go_wp2_with fail
      go_ret
      refine ⟨q, rfl, ?_, HF.out, by rw [Hq.out]; exact Nat.le_refl _⟩
      have h := HB.out
      unfold Bk at h ⊢
      rw [arrC_congr (g := newBook)] at h
      · exact h
      · intro j hj
        rw [if_pos (by omega)]
        rfl

theorem btopic_any (t : Int) (w : World) :
    Calls Try.prog 63 #[.int .i64 t] w fun e w' => e = .returned (.bool (decide (0 ≤ t ∧ t ≤ 15))) ∧ w' = w := by
  obtain ⟨T, hT⟩ : ∃ T, T = decide (0 ≤ t ∧ t ≤ 15) := ⟨_, rfl⟩
  rw [← hT]
  by_cases h1 : 0 ≤ t
  · by_cases h2 : t < 16
    · obtain rfl : T = true := by rw [hT]; simp; omega
      have e1 : decide (0 ≤ t) = true := by simpa using h1
      have e2 : decide (t < 16) = true := by simpa using h2
      clear hT
      go_enter Try.func63, Try.ntmps63
      go_wp2_with fail
      go_ret
      exact ⟨rfl, rfl⟩
    · obtain rfl : T = false := by rw [hT]; simp; omega
      have e1 : decide (0 ≤ t) = true := by simpa using h1
      have e2 : decide (t < 16) = false := by simpa using h2
      clear hT
      go_enter Try.func63, Try.ntmps63
      go_wp2_with fail
      go_ret
      exact ⟨rfl, rfl⟩
  · obtain rfl : T = false := by rw [hT]; simp; omega
    have e1 : decide (0 ≤ t) = false := by simpa using h1
    clear hT
    go_enter Try.func63, Try.ntmps63
    go_wp2_with fail
    go_ret
    exact ⟨rfl, rfl⟩

theorem bfirst_any (t : Nat) (w : World) :
    Calls Try.prog 89 #[.int .i64 (t : Int)] w fun e w' => e = .returned (.bool (decide (t < 16))) ∧ w' = w := by
  have e1 : decide ((t : Int) < 16) = decide (t < 16) := by simp; omega
  obtain ⟨T, hT⟩ : ∃ T, T = decide (t < 16) := ⟨_, rfl⟩
  rw [← hT] at e1 ⊢
  clear hT
  go_enter Try.func89, Try.ntmps89
  go_wp2_with fail
  go_ret
  exact ⟨rfl, rfl⟩

/-! Two rows alike. -/
section
variable {P : Program}
theorem run_equalIn_row (d : Nat) (t e : TypeId) (n k : Nat) (xs ys : Array Value) (X Y : Nat → Value) (b : Nat → Bool) (w : World) (ht : P.underlying t = some (.array n e)) (hs : ∀ w, (sizeOf e).run P w = .ok k w)
    (hx : ∀ i, i < n → (part e xs (i * k)).run P w = .ok (X i) w) (hy : ∀ i, i < n → (part e ys (i * k)).run P w = .ok (Y i) w)
    (hb : ∀ i, i < n → (Op.equalIn d e (X i) (Y i)).run P w = .ok (b i) w) :
    (Op.equalIn (d + 1) t (.agg xs) (.agg ys)).run P w = .ok ((List.range n).all b) w := by
  rw [List.range_eq_range', Op.equalIn]
  simp only [Sem.run_bind, run_underlying ht, Result.andThen_ok, hs, Std.Legacy.Range.forIn_eq_forIn_range', Std.Legacy.Range.size, Nat.sub_zero, Nat.add_sub_cancel, Nat.div_one]
  have hl : ∀ i ∈ List.range' 0 n 1, i < n := fun i hi => by simpa using (List.mem_range'_1.1 hi).2
  generalize List.range' 0 n 1 = l at hl ⊢
  induction l with
  | nil => simp
  | cons i l ih =>
    have hi : i < n := hl i (by simp)
    simp only [List.forIn_cons, Sem.run_bind, hx i hi, hy i hi, hb i hi, Result.andThen_ok, List.all_cons]
    cases hb : b i
    · simp
    · simp only [Bool.not_true, Bool.false_eq_true, if_false, Sem.run_pure, Result.andThen_ok, Bool.true_and]
      exact ih fun j hj => hl j (by simp [hj])
theorem sizeOf_run {e : TypeId} {k : Nat} (h : (P.info? e).map (·.size) = some k) (w : World) : (sizeOf e).run P w = .ok k w := by
  cases hq : P.info? e with
  | none => simp [hq] at h
  | some i =>
    have : i.size = k := by simpa [hq] using h
    simp [sizeOf, typeInfo, hq, this, Sem.run_bind]
end

theorem arrC_extract (B : Nat → Nat) (t n : Nat) (h : t + n ≤ 592) : (arrC 592 B).extract t (t + n) = arrC n (fun i => B (t + i)) := by
  apply Array.ext_getElem?
  intro j
  by_cases hj : j < n
  · rw [arrC_get _ hj, Array.getElem?_extract, if_pos (by rw [arrC_size]; omega), arrC_get _ (by omega)]
  · rw [Array.getElem?_eq_none (by simp [arrC_size]; omega), Array.getElem?_eq_none (by rw [arrC_size]; omega)]

theorem eql_page (f g : Nat → Nat) (w : World) :
    (Op.equalIn 9999 71 (.agg (arrC 37 f)) (.agg (arrC 37 g))).run Try.prog w = .ok ((List.range 37).all fun i => f i == g i) w := by
  refine run_equalIn_row (P := Try.prog) 9998 71 69 37 1 _ _ (fun i => .int .u16 (f i : Int)) (fun i => .int .u16 (g i : Int)) _ w undPg (sizeOf_run sizeCh) ?_ ?_ ?_
  · intro i hi
    have := arrC_get f hi
    simp only [Array.getElem?_eq_getElem (show i < (arrC 37 f).size by rw [arrC_size]; exact hi), Option.some.injEq] at this
    simp [part, isAgg, run_underlying undCh, Sem.run_bind, this, arrC_size, hi]
  · intro i hi
    have := arrC_get g hi
    simp only [Array.getElem?_eq_getElem (show i < (arrC 37 g).size by rw [arrC_size]; exact hi), Option.some.injEq] at this
    simp [part, isAgg, run_underlying undCh, Sem.run_bind, this, arrC_size, hi]
  · intro i hi
    rw [run_equalIn_int w 9997 69 .u16 .u16 _ _ undCh]
    congr 1
    rw [Bool.eq_iff_iff]
    simp
    omega
theorem part_page (f : Nat → Nat) (t : Nat) (ht : t < 16) (w : World) : (part 71 (arrC 592 f) (t * 37)).run Try.prog w = .ok (.agg (arrC 37 fun i => f (t * 37 + i))) w := by
  have h1 := sizeOf_run (P := Try.prog) sizePg w
  have h2 := arrC_extract f (t * 37) 37 (by omega)
  unfold part isAgg
  simp only [Sem.run_bind, run_underlying undPg, Result.andThen_ok, Sem.run_pure, if_true, h1, h2]
theorem eql_all (f g : Nat → Nat) : ((List.range 16).all fun t => (List.range 37).all fun i => f (t * 37 + i) == g (t * 37 + i)) = sameB f g := by
  unfold sameB
  rw [Bool.eq_iff_iff, List.all_eq_true, List.all_eq_true]
  constructor
  · intro h j hj
    have hj : j < 592 := by simpa using hj
    have h1 := h (j / 37) (by simp; omega)
    rw [List.all_eq_true] at h1
    have h2 := h1 (j % 37) (by simp; omega)
    rw [show j / 37 * 37 + j % 37 = j by omega] at h2
    exact h2
  · intro h t ht
    have ht : t < 16 := by simpa using ht
    rw [List.all_eq_true]
    intro i hi
    have hi : i < 37 := by simpa using hi
    exact h (t * 37 + i) (by simp; omega)
theorem eql_pages (f g : Nat → Nat) (w : World) :
    (binOp .eql 72 (.agg (arrC 592 f)) (.agg (arrC 592 g))).run Try.prog w = .ok (.bool (sameB f g)) w := by
  have h := run_equalIn_row (P := Try.prog) 9999 72 71 16 37 (arrC 592 f) (arrC 592 g) (fun t => .agg (arrC 37 fun i => f (t * 37 + i))) (fun t => .agg (arrC 37 fun i => g (t * 37 + i))) _ w undPs (sizeOf_run sizePg) (fun t ht => part_page f t ht w) (fun t ht => part_page g t ht w) (fun t ht => eql_page _ _ w)
  have e : ((List.range 16).all fun t => (List.range 37).all fun i => f (t * 37 + i) == g (t * 37 + i)) = sameB f g := eql_all f g
  rw [e] at h
  rw [run_eql_struct]
  exact (congrArg (fun r => Result.andThen r fun b w' => Result.ok (Value.bool b) w') h).trans rfl
end Go.Proofs.Ytendcmdpmohacaa

/-
  Contracts of the landed book: Same, Copy. No condition.
-/
namespace Go.Proofs.Ytendcmdpmohacaa
open Go.RowKit

theorem fold_zip_list : ∀ (l : List Value) (k : Nat) (Z : Array Value) (j : Nat),
    (List.foldl (fun (a : Array Value) (x : Value × Nat) => a.setIfInBounds x.snd x.fst) Z (l.zipIdx k))[j]? = if k ≤ j ∧ j < k + l.length ∧ j < Z.size then l[j - k]? else Z[j]?
  | [], k, Z, j => by
    rw [if_neg (by simp; omega)]
    rfl
  | u :: l, k, Z, j => by
    rw [List.zipIdx_cons, List.foldl_cons, fold_zip_list l (k + 1) _ j]
    simp only [Array.size_setIfInBounds, List.length_cons, Array.getElem?_setIfInBounds]
    by_cases hj : k = j
    · subst hj
      rw [if_neg (by omega), if_pos rfl]
      by_cases hz : k < Z.size
      · rw [if_pos hz, if_pos ⟨by omega, by omega, hz⟩]
        simp
      · rw [if_neg hz, if_neg (by omega), Array.getElem?_eq_none (by omega)]
    · by_cases h1 : k + 1 ≤ j ∧ j < k + 1 + l.length ∧ j < Z.size
      · rw [if_pos h1, if_pos ⟨by omega, by omega, by omega⟩, show j - k = (j - (k + 1)) + 1 by omega]
        rfl
      · rw [if_neg h1, if_neg hj, if_neg (by omega)]
theorem fold_zip (cs Z : Array Value) (n : Nat) (hc : cs.size = n) (hz : Z.size = n) : Array.foldl (fun (a : Array Value) (x : Value × Nat) => a.setIfInBounds x.snd x.fst) Z cs.zipIdx 0 n = cs := by
  have h0 : Array.foldl (fun (a : Array Value) (x : Value × Nat) => a.setIfInBounds x.snd x.fst) Z cs.zipIdx 0 n = List.foldl (fun (a : Array Value) (x : Value × Nat) => a.setIfInBounds x.snd x.fst) Z (cs.toList.zipIdx 0) := by
    have := Array.foldl_toList (xs := cs.zipIdx) (init := Z) (fun (a : Array Value) (x : Value × Nat) => a.setIfInBounds x.snd x.fst)
    rw [Array.toList_zipIdx] at this
    rw [this, Array.size_zipIdx, hc]
  rw [h0]
  apply Array.ext_getElem?
  intro j
  rw [fold_zip_list]
  by_cases hj : j < n
  · rw [if_pos ⟨by omega, by simp; omega, by omega⟩]
    simp
  · rw [if_neg (by omega), Array.getElem?_eq_none (by omega), Array.getElem?_eq_none (by omega)]
/-- A whole array, read, as an operation. -/
theorem exec_loadB {P : Program} {a : Act} {o : Oper} {ty : TypeId} {x : Operand} {g : Nat} {cs : Array Value} {W : World} (ho : o.op = .load ty x) (hx : a.eval x = .pointer (some ⟨g, 0, none⟩))
    (h : (loadVar ty ⟨g, 0, none⟩).run P W = .ok (.agg cs) W) : (execOp a.eval o).run P W = .ok (.value (.agg cs)) W := by
  unfold execOp
  simp only [ho, hx, Instr.loadAt, Instr.sureAddr, Sem.run_bind, Sem.run_pure, Result.andThen_ok, h]
theorem load_arrB {W : World} {p : Nat} {t : TypeId} {cs : Array Value} (hB : Blk W p t cs) {ty : TypeId} {n : Nat} {e : TypeId} (hu : Try.prog.underlying ty = some (.array n e)) (hi : (Try.prog.info? ty).map (·.size) = some cs.size) :
    (loadVar ty ⟨p, 0, none⟩).run Try.prog W = .ok (.agg cs) W :=
  run_loadVar_row W p t ty cs (0, 0) _ hB.here hu rfl hi
theorem zeroBk_size : Try.zeroCells74.size = 592 := by decide +kernel

set_option maxRecDepth 20000 in
theorem bsame_any (w : World) (b : Nat) (B : Chs) (c : Nat) (C : Chs) (hb : Bk w b B) (hc : Bk w c C) :
    Calls Try.prog 33 #[pt b, pt c] w fun r w' => r = .returned (.bool (sameB B C)) ∧ Fr [] w w' := by
  have hs : ∀ f, (Try.prog.info? 72).map (·.size) = some (arrC 592 f).size := fun f => by rw [arrC_size]; exact sizePs
  have he := eql_pages B C
  obtain ⟨S, hS⟩ : ∃ S, S = sameB B C := ⟨_, rfl⟩
  rw [← hS] at he ⊢
  clear hS
  have Hs := Lib.hid hs
  have Hb := Lib.hid hb
  have Hc := Lib.hid hc
  clear hs hb hc
  go_enter Try.func33, Try.ntmps33
  go_upto_region 3 with fail
  have hb := Blk.drew Hb.out
  have hc := Blk.drew Hc.out
  refine wp_region_held_drew (S := fun W => Blk W b 74 (arrC 592 B) ∧ Blk W c 74 (arrC 592 C)) (by kernel_rfl) ?_ (fun hHeld => ?_)
  · exact ⟨hb, hc⟩
  refine wpAnyH_pick 0 (v := ?_) rfl (by kernel_rfl) (by kernel_rfl) (by kernel_rfl) (fun _ _ _ h => h) (by assumption) (by rfl) ?_ ?_
  rotate_left
  · (intro w hSw; (try dsimp only at hSw); go_simp) <;> (with_reducible rfl)
  (try simp only [Act.put, List.setIfInBounds_toArray, List.set_cons_zero, List.set_cons_succ])
  refine wpAnyH_pick 1 (v := ?_) rfl (by kernel_rfl) (by kernel_rfl) (by kernel_rfl) (fun _ _ _ h => h) (by assumption) (by rfl) ?_ ?_
  rotate_left
  · (intro w hSw; (try dsimp only at hSw); go_simp) <;> (with_reducible rfl)
  (try simp only [Act.put, List.setIfInBounds_toArray, List.set_cons_zero, List.set_cons_succ])
  refine wpAnyH_pick 2 (v := ?_) rfl (by kernel_rfl) (by kernel_rfl) (by kernel_rfl) (fun _ _ _ h => h) (by assumption) (by rfl) ?_ ?_
  rotate_left
  · (intro w hSw; (try dsimp only at hSw); go_simp) <;> (with_reducible rfl)
  (try simp only [Act.put, List.setIfInBounds_toArray, List.set_cons_zero, List.set_cons_succ])
  refine wpAnyH_pick 3 rfl (by kernel_rfl) (by kernel_rfl) (by kernel_rfl) (fun _ _ _ h => h) (by assumption) (by rfl) (fun w hSw => exec_loadB rfl rfl (load_arrB hSw.1 undPs (Hs.out _))) ?_
  (try simp only [Act.put, List.setIfInBounds_toArray, List.set_cons_zero, List.set_cons_succ])
  refine wpAnyH_pick 4 (v := ?_) rfl (by kernel_rfl) (by kernel_rfl) (by kernel_rfl) (fun _ _ _ h => h) (by assumption) (by rfl) ?_ ?_
  rotate_left
  · (intro w hSw; (try dsimp only at hSw); go_simp) <;> (with_reducible rfl)
  (try simp only [Act.put, List.setIfInBounds_toArray, List.set_cons_zero, List.set_cons_succ])
  refine wpAnyH_pick 5 (v := ?_) rfl (by kernel_rfl) (by kernel_rfl) (by kernel_rfl) (fun _ _ _ h => h) (by assumption) (by rfl) ?_ ?_
  rotate_left
  · (intro w hSw; (try dsimp only at hSw); go_simp) <;> (with_reducible rfl)
  (try simp only [Act.put, List.setIfInBounds_toArray, List.set_cons_zero, List.set_cons_succ])
  refine wpAnyH_pick 6 (v := ?_) rfl (by kernel_rfl) (by kernel_rfl) (by kernel_rfl) (fun _ _ _ h => h) (by assumption) (by rfl) ?_ ?_
  rotate_left
  · (intro w hSw; (try dsimp only at hSw); go_simp) <;> (with_reducible rfl)
  (try simp only [Act.put, List.setIfInBounds_toArray, List.set_cons_zero, List.set_cons_succ])
  refine wpAnyH_pick 7 rfl (by kernel_rfl) (by kernel_rfl) (by kernel_rfl) (fun _ _ _ h => h) (by assumption) (by rfl) (fun w hSw => exec_loadB rfl rfl (load_arrB hSw.2 undPs (Hs.out _))) ?_
  (try simp only [Act.put, List.setIfInBounds_toArray, List.set_cons_zero, List.set_cons_succ])
  refine wpAnyH_pick 8 (v := ?_) rfl (by kernel_rfl) (by kernel_rfl) (by kernel_rfl) (fun _ _ _ h => h) (by assumption) (by rfl) ?_ ?_
  rotate_left
  · (intro w hSw; (try dsimp only at hSw); go_simp) <;> (with_reducible rfl)
  (try simp only [Act.put, List.setIfInBounds_toArray, List.set_cons_zero, List.set_cons_succ])
  refine wpAnyH_pick 9 (v := ?_) rfl (by kernel_rfl) (by kernel_rfl) (by kernel_rfl) (fun _ _ _ h => h) (by assumption) (by rfl) ?_ ?_
  rotate_left
  · (intro w hSw; (try dsimp only at hSw); go_simp) <;> (with_reducible rfl)
  (try simp only [Act.put, List.setIfInBounds_toArray, List.set_cons_zero, List.set_cons_succ])
  refine wpAnyH_done (by kernel_rfl) ?_ _
  skip
  go_wp2_with fail
  go_ret
  exact ⟨rfl, (Fr.refl _ _).drew⟩
set_option maxRecDepth 20000 in
theorem bsameNN_any (w : World) : Calls Try.prog 33 #[.pointer none, .pointer none] w fun r w' => r = .returned (.bool true) ∧ Fr [] w w' := by
  go_enter Try.func33, Try.ntmps33
  go_wp2_with fail
  go_ret
  exact ⟨rfl, Fr.refl _ _⟩
theorem eql_nil_pt (w : World) (b : Nat) : (binOp .eql 35 (.pointer none) (pt b)).run Try.prog w = .ok (.bool false) w := by
  have hu : Try.prog.underlying 35 = some (.pointer 74) := by kernel_rfl
  have h : ∀ d : Nat, (Op.equalIn (d + 1) 35 (.pointer none) (pt b)).run Try.prog w = .ok false w := fun d => by
    simp [Op.equalIn, run_underlying hu]
  simp only [binOp]
  simp [Op.equal, Op.maxDepth, h 9999]
set_option maxRecDepth 20000 in
theorem bsameNB_any (w : World) (b : Nat) : Calls Try.prog 33 #[.pointer none, pt b] w fun r w' => r = .returned (.bool false) ∧ Fr [] w w' := by
  have he := fun w => eql_nil_pt w b
  go_enter Try.func33, Try.ntmps33
  go_wp2_with fail
  go_ret
  exact ⟨rfl, Fr.refl _ _⟩
set_option maxRecDepth 20000 in
theorem bcopyNil_any (w : World) : Calls Try.prog 32 #[.pointer none] w fun r w' => r = .returned (.pointer none) ∧ Fr [] w w' := by
  go_enter Try.func32, Try.ntmps32
  go_wp2_with fail
  go_ret
  exact ⟨rfl, Fr.refl _ _⟩

set_option maxRecDepth 20000 in
theorem bcopy_any (w : World) (b : Nat) (B : Chs) (hb : Bk w b B) :
    Calls Try.prog 32 #[pt b] w fun r w' => ∃ c, r = .returned (pt c) ∧ Bk w' c B ∧ Fr [] w w' ∧ w.heap.size ≤ c := by
  have hs : (Try.prog.info? 72).map (·.size) = some (arrC 592 B).size := by rw [arrC_size]; exact sizePs
  have hz : (arrC 592 B).size = 592 := arrC_size _ _
  obtain ⟨cs, hcs⟩ : ∃ cs, cs = arrC 592 B := ⟨_, rfl⟩
  have hb' := hb
  unfold Bk at hb'
  rw [← hcs] at hs hz hb'
  have Hs := Lib.hid hs
  have Hb := Lib.hid hb'
  have Hc := Lib.hid hcs
  clear hs hb hb' hcs
  go_enter Try.func32, Try.ntmps32
  go_wp2_with (first
        | refine wpList_load_row rfl 72 _ rfl b rfl 74 _ _ _ Hb.out.here undPs rfl Hs.out ?_)
  rw [fold_zip cs _ 592 hz zeroBk_size]
  go_ret
  refine ⟨w.heap.size, rfl, ?_, (Fr.refl _ _).alloc _, Nat.le_refl _⟩
  have h := Blk.new w 74 cs
  rw [Hc.out] at h
  rw [Hc.out]
  exact h
end Go.Proofs.Ytendcmdpmohacaa

/-
  Contracts of the document's coder of layer 4: Right, Next, New, add; conditions: the code fits.
-/
namespace Go.Proofs.Ytendcmdpmohacaa
open Go.RowKit

theorem rright_any (c : Nat) (w : World) :
    Calls Try.prog 94 #[.int .i64 (c : Int)] w fun e w' => e = .returned (.bool (decide (rightC c))) ∧ w' = w := by
  by_cases h1 : 31 ≤ c
  · have e1 : decide ((31 : Int) ≤ (c : Int)) = true := by simp; omega
    by_cases h2 : c ≤ 2017
    · have e2 : decide ((c : Int) ≤ 2017) = true := by simp; omega
      have e3 : decide (rightC c) = true := decide_eq_true ⟨h1, h2⟩
      go_enter Try.func94, Try.ntmps94
      go_wp2_with fail
      go_ret
      exact ⟨by rw [e3]; rfl, rfl⟩
    · have e2 : decide ((c : Int) ≤ 2017) = false := by simp; omega
      have e3 : decide (rightC c) = false := decide_eq_false fun h => h2 h.2
      go_enter Try.func94, Try.ntmps94
      go_wp2_with fail
      go_ret
      exact ⟨by rw [e3]; rfl, rfl⟩
  · have e1 : decide ((31 : Int) ≤ (c : Int)) = false := by simp; omega
    have e3 : decide (rightC c) = false := decide_eq_false fun h => h1 h.1
    go_enter Try.func94, Try.ntmps94
    go_wp2_with fail
    go_ret
    exact ⟨by rw [e3]; rfl, rfl⟩

theorem rnext_any (c : Nat) (bit : Int) (w : World) (hc : c ≤ 65535) :
    Calls Try.prog 85 #[.int .i64 (c : Int), .int .i64 bit] w fun e w' => e = .returned (.int .i64 (nextC c (bit != 0) : Int)) ∧ w' = w := by
  obtain ⟨y, hy⟩ : ∃ y, y = nextC c (bit != 0) := ⟨_, rfl⟩
  rw [← hy]
  unfold nextC clampC at hy
  by_cases hb : bit = 0
  · have eb : (bit == 0) = true := by simp [hb]
    rw [show (bit != 0) = false by simp [hb], if_neg (by simp)] at hy
    have HY := Lib.hid hy; clear hy hb
    go_enter Try.func85, Try.ntmps85
    go_wp2_with fail
    all_goals
      go_ret
      refine ⟨?_, rfl⟩
      have hy := HY.out
      first
        | (refine congrArg (fun z => Ending.returned (Value.int .i64 z)) (?_ : _ = (y : Int)); omega)
        | (exfalso; simp_all <;> omega)
  · have eb : (bit == 0) = false := by simp [hb]
    rw [show (bit != 0) = true by simp [hb], if_pos rfl] at hy
    have HY := Lib.hid hy; clear hy hb
    go_enter Try.func85, Try.ntmps85
    go_wp2_with fail
    all_goals
      go_ret
      refine ⟨?_, rfl⟩
      have hy := HY.out
      first
        | (refine congrArg (fun z => Ending.returned (Value.int .i64 z)) (?_ : _ = (y : Int)); omega)
        | (exfalso; simp_all <;> omega)

def I8 (b : UInt8) : Value := .int .i64 (b.toNat : Int)

/-- The document's encoder: its digits, in a row of its own, and the range. -/
def Re (w : World) (p : Nat) (v : Value) (e : Enc) : Prop :=
  Blk w p 83 #[v, .int .i64 (e.r : Int)] ∧ Own w 3 v ((bytesOf e.n e.v).map I8) ∧ v.ownBlock ≠ some p
/-- What writing changes: the encoder's own cells, its row; the row is the same or new. -/
def ReFr (p : Nat) (v v' : Value) (w w' : World) : Prop := Fr (p :: v.ownBlock.toList) w w' ∧ (v'.ownBlock = v.ownBlock ∨ ∃ g, v'.ownBlock = some g ∧ w.heap.size ≤ g)

theorem rnew_any (w : World) :
    Calls Try.prog 23 #[] w fun e w' => ∃ p v, e = .returned (.pointer (some ⟨p, 0, none⟩)) ∧ Re w' p v encNew ∧ Fr [] w w' ∧ w.heap.size ≤ p ∧ ∀ k, v.ownBlock = some k → w.heap.size ≤ k := by
  go_enter Try.func23, Try.ntmps23
  go_wp2_with fail
  go_ret
  refine ⟨w.heap.size + 1, .slice (some ⟨w.heap.size, 0, none⟩) 4 4, rfl, ⟨?_, ?_, ?_⟩, ((Fr.refl _ _).alloc _).alloc _, by omega, by simp [Value.ownBlock]⟩
  · have h := Blk.new (w.alloc (Obj.cells #[Value.int IntKind.i64 0, Value.int IntKind.i64 0, Value.int IntKind.i64 0, Value.int IntKind.i64 0] 3)) 83 #[Value.slice (some ⟨w.heap.size, 0, none⟩) 4 4, Value.int IntKind.i64 4294967295]
    rw [World.size_alloc] at h
    exact h
  · exact (Own.lit w 3 #[Value.int IntKind.i64 0, Value.int IntKind.i64 0, Value.int IntKind.i64 0, Value.int IntKind.i64 0] 4 rfl (by simp [maxLen])).alloc _
  · simp [Value.ownBlock]

theorem carry_step {v n P B c : Nat} (_h : v + c * (256 * P) = n) (hB : B < 256) : (B + c % 256) / 256 + c / 256 ≤ c := by
  omega

set_option maxRecDepth 20000 in
set_option maxHeartbeats 4000000 in
theorem radd_any (p : Nat) (v : Value) (e : Enc) (n : Nat) (w : World) (h : Re w p v e) (hn : e.v + n < 256 ^ e.n) (hl : e.n ≤ 1000000000) (hs : n ≤ 1099511627776) :
    Calls Try.prog 95 #[.pointer (some ⟨p, 0, none⟩), .int .i64 (n : Int)] w fun e' w' => e' = .returned (.tuple #[]) ∧ Re w' p v ⟨e.v + n, e.n, e.r⟩ ∧ Fr v.ownBlock.toList w w' := by
  obtain ⟨hB, hO, hne⟩ := h
  obtain ⟨ds, hds⟩ : ∃ ds, ds = bytesOf e.n e.v := ⟨_, rfl⟩
  have hdl : ds.length = e.n := by rw [hds, bytesOf_length]
  have hdv : valueOf ds = e.v := by rw [hds, valueOf_bytesOf, Nat.mod_eq_of_lt (by omega)]
  rw [← hds] at hO
  obtain ⟨g, c, rfl⟩ : ∃ g c, v = .slice g e.n c := by
    rcases hO.form with ⟨rfl, h0⟩ | ⟨g, cap, cur, rfl, -⟩
    · have := congrArg List.length h0
      simp at this
      exact ⟨none, 0, by rw [← hdl, this]; rfl⟩
    · exact ⟨_, _, by simp [hdl]; exact ⟨rfl, rfl⟩⟩
  obtain ⟨L, hL⟩ : ∃ L, L = e.n := ⟨_, rfl⟩
  rw [← hL] at hdl hn hl hO hne hB ⊢
  have c0 := hB.cell 0
  have hlt := hB.lt
  simp at c0
  have Hds := Lib.hid hds; clear hds
  have Hdl := Lib.hid hdl; clear hdl
  have Hdv := Lib.hid hdv; clear hdv
  have HO := Lib.hid hO; clear hO
  have HB := Lib.hid hB; clear hB
  have Hne := Lib.hid hne; clear hne
  have Hn := Lib.hid hn; clear hn
  have HL := Lib.hid hL; clear hL
  go_enter Try.func95, Try.ntmps95
  go_wp2_with fail
  go_loopw [4, 5] (fun s4 s5 wr => ∃ (j cy : Nat) (xs : List UInt8), j ≤ L ∧ s5 = .int .i64 ((j : Int) - 1) ∧ s4 = .int .i64 (cy : Int) ∧ cy ≤ 1099511627776 ∧ xs.length = L ∧ valueOf xs + cy * 256 ^ (L - j) = e.v + n ∧ Own wr 3 (.slice g L c) (xs.map I8) ∧ Blk wr p 83 #[.slice g L c, .int .i64 (e.r : Int)] ∧ Fr (Value.slice g L c).ownBlock.toList w wr) (fun _ s5 _ => (intOf s5 + 1).toNat)
  case atStart => exact ⟨L, n, ds, Nat.le_refl _, rfl, rfl, hs, Hdl.out, by rw [Nat.sub_self, Nat.pow_zero, Nat.mul_one, Hdv.out], HO.out, HB.out, Fr.refl _ _⟩
  case round =>
    obtain ⟨j, cy, xs, hj, rfl, rfl, hcy, hxl, hV, hO, hB, hF⟩ := hrel
    have Hxl := Lib.hid hxl; clear hxl
    have HV := Lib.hid hV; clear hV
    have HF := Lib.hid hF; clear hF
    have c1 := hB.cell 0
    simp at c1
    have hdone : (j = 0 ∨ cy = 0) → Re wr p (.slice g L c) ⟨e.v + n, L, e.r⟩ := by
      intro hx
      have hval : valueOf xs = e.v + n := by
        have h1 := HV.out
        have h2 := Hn.out
        rcases hx with rfl | rfl
        · rw [Nat.sub_zero] at h1
          by_cases h0 : cy = 0
          · subst h0; omega
          · have : 1 * 256 ^ L ≤ cy * 256 ^ L := Nat.mul_le_mul_right _ (by omega)
            omega
        · omega
      refine ⟨hB, ?_, Hne.out⟩
      rw [← of_value Hxl.out hval]
      exact hO
    have HB2 := Lib.hid hB; clear hB
    by_cases hj0 : j = 0
    · subst hj0
      have hR := Lib.hid (hdone (.inl rfl)); clear hdone hO
      go_wp2_with fail
      go_end0
      exact ⟨rfl, hR.out, HF.out⟩
    · by_cases hc0 : cy = 0
      · subst hc0
        obtain ⟨k, rfl⟩ : ∃ k, j = k + 1 := ⟨j - 1, by omega⟩
        have hR := Lib.hid (hdone (.inr rfl)); clear hdone hO
        go_wp2_with fail
        go_end0
        exact ⟨rfl, hR.out, HF.out⟩
      · obtain ⟨k, rfl⟩ : ∃ k, j = k + 1 := ⟨j - 1, by omega⟩
        have e0 : decide ((0 : Int) < (cy : Int)) = true := by simp; omega
        clear hdone
        obtain ⟨g', rfl, c2, c3, -, -⟩ := hO.cell (j := k) (by simp; have := Hxl.out; omega)
        obtain ⟨x, hx⟩ : ∃ x, x = xs.getD k 0 := ⟨_, rfl⟩
        have hk : k < xs.length := by have := Hxl.out; omega
        have c4 : wr.cell? ⟨g', k, none⟩ = some (.int .i64 (x.toNat : Int)) := by
          rw [c2, List.getElem?_map, List.getElem?_eq_getElem hk, hx, List.getD_eq_getElem?_getD, List.getElem?_eq_getElem hk]; rfl
        have hxl := x.toNat_lt
        obtain ⟨V, hVV⟩ : ∃ V, V = x.toNat + cy % 256 := ⟨_, rfl⟩
        have eV : (x.toNat : Int) + (cy : Int) % 256 = (V : Int) := by omega
        obtain ⟨z, hz⟩ : ∃ z : UInt8, z = UInt8.ofNat (V % 256) := ⟨_, rfl⟩
        have hzn : z.toNat = V % 256 := by rw [hz]; simp
        have ez : (V : Int) % 256 = (z.toNat : Int) := by omega
        obtain ⟨cy', hcy'⟩ : ∃ cy', cy' = cy / 256 + V / 256 := ⟨_, rfl⟩
        have ec : (cy : Int) / 256 + (V : Int) / 256 = (cy' : Int) := by omega
        have hVl : V ≤ 510 := by omega
        have hsum : z.toNat + 256 * cy' = x.toNat + cy := by omega
        have hcl : cy' ≤ 1099511627776 := by omega
        have h3 := hO.set k (I8 z)
        have hne : g' ≠ p := by have := Hne.out; simpa [Value.ownBlock] using this
        have hVn : valueOf (xs.set k z) + cy' * 256 ^ (L - k) = e.v + n := by
          have h1 := HV.out
          have h2 := valueOf_set xs k z hk
          rw [← hx, Hxl.out] at h2
          rw [show L - (k + 1) = L - 1 - k by omega] at h1
          rw [show L - k = (L - 1 - k) + 1 by omega, Nat.pow_succ]
          generalize 256 ^ (L - 1 - k) = P at h1 h2 ⊢
          have h4 : z.toNat * P + 256 * cy' * P = x.toNat * P + cy * P := by rw [← Nat.add_mul, hsum, Nat.add_mul]
          rw [show cy' * (P * 256) = 256 * cy' * P by rw [Nat.mul_comm P 256, ← Nat.mul_assoc, Nat.mul_comm cy' 256]]
          omega
        have H3 := Lib.hid h3
        have HVn := Lib.hid hVn
        clear h3 hVn hz hzn hVV hcy' hsum hx c2 hO
        go_wp2_with fail
        refine ⟨⟨k, cy', xs.set k z, by omega, by simp, rfl, hcl, by rw [List.length_set]; exact Hxl.out, HVn.out, ?_, HB2.out.far (by simp; omega) _, HF.out.setCell (.inl (by simp [Value.ownBlock])) _⟩, by simp [intOf]⟩
        have h5 := H3.out
        rw [← List.map_set] at h5
        exact h5
end Go.Proofs.Ytendcmdpmohacaa
