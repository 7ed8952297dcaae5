/-
  Plain facts on bits, bytes and how bits are packed into bytes. No program text here.
-/
namespace Go.Proofs.Ytfjlepnodmeaaaa

/-- The lowest n bits of v, the highest one first. -/
def digits (v : Nat) : Nat → List Bool
  | 0 => []
  | n + 1 => v.testBit n :: digits v n

def number (l : List Bool) : Nat := l.foldl (fun a b => 2 * a + b.toNat) 0

/-- Bit j of bytes, counted from the first byte's highest one on. -/
def bitAt (bs : List UInt8) (j : Nat) : Bool := (bs.getD (j / 8) 0).toNat.testBit (7 - j % 8)

/-- bs are the bits l, filled up with 0 to whole bytes. -/
def PackOf (bs : List UInt8) (l : List Bool) : Prop := bs.length = (l.length + 7) / 8 ∧ ∀ j, bitAt bs j = l.getD j false

@[simp] theorem digits_length (v n : Nat) : (digits v n).length = n := by
  induction n with
  | zero => rfl
  | succ n ih => simp [digits, ih]

theorem digits_getD (v : Nat) : ∀ n j, (digits v n).getD j false = (decide (j < n) && v.testBit (n - 1 - j))
  | 0, j => by simp [digits]
  | n + 1, 0 => by simp [digits]
  | n + 1, j + 1 => by
    have := digits_getD v n j
    simp only [digits, List.getD_cons_succ, this]
    have h : n - 1 - j = n + 1 - 1 - (j + 1) := by omega
    rw [h]; simp

theorem ext_getD {l m : List Bool} (hl : l.length = m.length) (h : ∀ j, l.getD j false = m.getD j false) : l = m := by
  apply List.ext_getElem hl
  intro i h1 h2
  have := h i
  simpa [List.getD_eq_getElem?_getD, h1, h2] using this

theorem getD_append' (l m : List Bool) (j : Nat) : (l ++ m).getD j false = if j < l.length then l.getD j false else m.getD (j - l.length) false := by
  simp only [List.getD_eq_getElem?_getD, List.getElem?_append]
  split <;> rfl

theorem digits_add (v n k : Nat) : digits v (n + k) = digits (v >>> n) k ++ digits v n := by
  apply ext_getD (by simp; omega)
  intro j
  rw [getD_append', digits_length, digits_getD, digits_getD, digits_getD]
  by_cases h : j < k
  · simp only [h, if_true, Nat.testBit_shiftRight]
    rw [show n + (k - 1 - j) = n + k - 1 - j by omega]
    simp [show j < n + k by omega]
  · simp only [h, if_false]
    rw [show n - 1 - (j - k) = n + k - 1 - j by omega]
    congr 1
    apply decide_eq_decide.2; omega

theorem digits_more (a n m k : Nat) (h : m + k ≤ n) : digits (a >>> m) (n - m) = digits (a >>> (m + k)) (n - (m + k)) ++ digits (a >>> m) k := by
  rw [show n - m = k + (n - (m + k)) by omega, digits_add, Nat.shiftRight_add]

theorem number_append (l : List Bool) (b : Bool) : number (l ++ [b]) = 2 * number l + b.toNat := by
  simp [number]

theorem foldl_number (l : List Bool) : ∀ a, l.foldl (fun a b => 2 * a + b.toNat) a = a * 2 ^ l.length + number l := by
  induction l with
  | nil => intro a; simp [number]
  | cons b l ih =>
    intro a
    simp only [List.foldl_cons, number, List.length_cons]
    rw [ih, ih (2 * 0 + b.toNat), Nat.pow_succ]
    simp only [Nat.add_mul, Nat.mul_zero, Nat.zero_add]
    rw [show 2 * a * 2 ^ l.length = a * (2 ^ l.length * 2) by rw [Nat.mul_comm 2 a, Nat.mul_assoc, Nat.mul_comm 2]]
    omega

theorem number_cons (b : Bool) (l : List Bool) : number (b :: l) = b.toNat * 2 ^ l.length + number l := by
  have := foldl_number l b.toNat
  simpa [number] using this

theorem number_lt (l : List Bool) : number l < 2 ^ l.length := by
  induction l with
  | nil => simp [number]
  | cons b l ih =>
    rw [number_cons, List.length_cons, Nat.pow_succ]
    cases b <;> simp <;> omega

theorem number_digits (v n : Nat) : number (digits v n) = v % 2 ^ n := by
  induction n with
  | zero => simp [digits, number, Nat.mod_one]
  | succ n ih =>
    rw [digits, number_cons, digits_length, ih, Nat.pow_succ, Nat.mod_mul, Nat.testBit_eq_decide_div_mod_eq]
    have : v / 2 ^ n % 2 < 2 := Nat.mod_lt _ (by omega)
    rcases (show v / 2 ^ n % 2 = 0 ∨ v / 2 ^ n % 2 = 1 by omega) with h | h <;> simp [h] <;> omega

theorem number_digits_lt {v n : Nat} (h : v < 2 ^ n) : number (digits v n) = v := by
  rw [number_digits, Nat.mod_eq_of_lt h]

theorem digits_number (l : List Bool) : digits (number l) l.length = l := by
  induction l with
  | nil => rfl
  | cons b l ih =>
    rw [List.length_cons, digits]
    have h1 := number_lt l
    congr 1
    · rw [number_cons, Nat.testBit_eq_decide_div_mod_eq, Nat.mul_comm, Nat.mul_add_div (by omega), Nat.div_eq_of_lt h1]
      cases b <;> simp
    · refine Eq.trans ?_ ih
      apply ext_getD (by simp)
      intro j
      rw [digits_getD, digits_getD, number_cons]
      by_cases hj : j < l.length
      · congr 1
        rw [Nat.mul_comm, Nat.testBit_two_pow_mul_add _ h1]
        simp [show l.length - 1 - j < l.length by omega]
      · simp [hj]

theorem number_shift (l : List Bool) (v n : Nat) : number (l ++ digits v n) = number l * 2 ^ n + v % 2 ^ n := by
  rw [← number_digits]
  have := foldl_number (digits v n) (number l)
  simpa [number, List.foldl_append] using this

theorem number_app (l m : List Bool) : number (l ++ m) = number l * 2 ^ m.length + number m := by
  have := foldl_number m (number l)
  simpa [number, List.foldl_append] using this

theorem PackOf.nil : PackOf [] [] := ⟨rfl, fun j => by simp [bitAt]⟩

theorem u8_ext {a b : UInt8} (h : ∀ p, p < 8 → a.toNat.testBit p = b.toNat.testBit p) : a = b := by
  apply UInt8.toNat_inj.1
  apply Nat.eq_of_testBit_eq
  intro i
  by_cases hi : i < 8
  · exact h i hi
  · have h1 : a.toNat < 2 ^ i := Nat.lt_of_lt_of_le (UInt8.toNat_lt a) (Nat.pow_le_pow_right (by omega) (by omega) : 2 ^ 8 ≤ 2 ^ i)
    have h2 : b.toNat < 2 ^ i := Nat.lt_of_lt_of_le (UInt8.toNat_lt b) (Nat.pow_le_pow_right (by omega) (by omega) : 2 ^ 8 ≤ 2 ^ i)
    rw [Nat.testBit_lt_two_pow h1, Nat.testBit_lt_two_pow h2]

theorem bits_ext {a b : List UInt8} (hl : a.length = b.length) (h : ∀ j, bitAt a j = bitAt b j) : a = b := by
  apply List.ext_getElem hl
  intro i h1 h2
  apply u8_ext
  intro p hp
  have := h (8 * i + (7 - p))
  simp only [bitAt] at this
  rw [show (8 * i + (7 - p)) / 8 = i by omega, show 7 - (8 * i + (7 - p)) % 8 = p by omega] at this
  simpa [List.getD_eq_getElem?_getD, h1, h2] using this

theorem PackOf.unique {a b : List UInt8} {l : List Bool} (ha : PackOf a l) (hb : PackOf b l) : a = b :=
  bits_ext (ha.1.trans hb.1.symm) fun j => (ha.2 j).trans (hb.2 j).symm

theorem bitAt_set (bs : List UInt8) (i : Nat) (x : UInt8) (j : Nat) (hi : i < bs.length) :
    bitAt (bs.set i x) j = if j / 8 = i then x.toNat.testBit (7 - j % 8) else bitAt bs j := by
  simp only [bitAt, List.getD_eq_getElem?_getD, List.getElem?_set]
  by_cases h : j / 8 = i
  · simp [h, hi]
  · simp [h, Ne.symm h]

theorem bitAt_push0 (bs : List UInt8) (j : Nat) : bitAt (bs ++ [0]) j = bitAt bs j := by
  simp only [bitAt, List.getD_eq_getElem?_getD, List.getElem?_append]
  split
  · rfl
  · rename_i h
    rw [List.getElem?_eq_none (l := bs) (by omega)]
    rcases (show j / 8 - bs.length = 0 ∨ 0 < j / 8 - bs.length by omega) with h0 | h0
    · simp [h0]
    · rw [List.getElem?_eq_none (by simp only [List.length_singleton]; omega)]

/-- One round of Put: the last byte takes k bits more. -/
theorem PackOf.round {bs : List UInt8} {l : List Bool} (h : ∀ j, bitAt bs j = l.getD j false) (u k i : Nat) (x : UInt8) (hi : i = l.length / 8) (hib : i < bs.length) (hk : k ≤ 8 - l.length % 8)
    (hx : x.toNat = (bs.getD i 0).toNat ||| ((u % 2 ^ k) <<< (8 - l.length % 8 - k))) (hlen : bs.length = (l.length + k + 7) / 8) :
    PackOf (bs.set i x) (l ++ digits u k) := by
  refine ⟨by simp [hlen], fun j => ?_⟩
  rw [bitAt_set bs i x j hib, getD_append', digits_getD]
  have hj := h j
  by_cases hd : j / 8 = i
  · rw [if_pos hd, hx, Nat.testBit_or, Nat.testBit_shiftLeft, Nat.testBit_mod_two_pow]
    have hb : (bs.getD i 0).toNat.testBit (7 - j % 8) = bitAt bs j := by simp [bitAt, hd]
    rw [hb, hj]
    by_cases hc : j < l.length
    · rw [if_pos hc]
      have : ¬ (7 - j % 8 - (8 - l.length % 8 - k) < k) := by omega
      simp [this]
    · rw [if_neg hc]
      have h0 : l.getD j false = false := by simp [List.getD_eq_getElem?_getD, List.getElem?_eq_none (by omega : l.length ≤ j)]
      rw [h0, Bool.false_or]
      by_cases hjk : j - l.length < k
      · have a1 : 7 - j % 8 ≥ 8 - l.length % 8 - k := by omega
        have a2 : 7 - j % 8 - (8 - l.length % 8 - k) < k := by omega
        have a3 : 7 - j % 8 - (8 - l.length % 8 - k) = k - 1 - (j - l.length) := by omega
        rw [a3] at a2 ⊢
        simp [a1, a2, hjk]
      · have a1 : ¬ (7 - j % 8 ≥ 8 - l.length % 8 - k) ∨ l.length % 8 + k = 8 ∧ False := by left; omega
        rcases a1 with a1 | ⟨_, a1⟩
        · simp [hjk]
          intro h; omega
        · exact a1.elim
  · rw [if_neg hd, hj]
    by_cases hc : j < l.length
    · rw [if_pos hc]
    · rw [if_neg hc]
      have h0 : l.getD j false = false := by simp [List.getD_eq_getElem?_getD, List.getElem?_eq_none (by omega : l.length ≤ j)]
      rw [h0]
      have : ¬ j - l.length < k := by omega
      simp [this]

theorem PackOf.push0 {bs : List UInt8} {l : List Bool} (h : PackOf bs l) (j : Nat) : bitAt (bs ++ [0]) j = l.getD j false := by
  rw [bitAt_push0, h.2]

/-- Align: the bits 0 more. -/
theorem PackOf.align {bs : List UInt8} {l : List Bool} (h : PackOf bs l) : PackOf bs (l ++ List.replicate ((8 - l.length % 8) % 8) false) := by
  refine ⟨by rw [h.1]; simp; omega, fun j => ?_⟩
  rw [h.2, getD_append']
  split
  · rfl
  · rename_i hc
    have h0 : l.getD j false = false := by simp [List.getD_eq_getElem?_getD, List.getElem?_eq_none (by omega : l.length ≤ j)]
    rw [h0]
    simp only [List.getD_eq_getElem?_getD, List.getElem?_replicate]
    split <;> rfl

/-- The bits of bytes. -/
def rowOf : List UInt8 → List Bool
  | [] => []
  | b :: r => digits b.toNat 8 ++ rowOf r

@[simp] theorem rowOf_length (bs : List UInt8) : (rowOf bs).length = 8 * bs.length := by
  induction bs with
  | nil => rfl
  | cons b r ih => simp [rowOf, ih]; omega

theorem rowOf_append (a b : List UInt8) : rowOf (a ++ b) = rowOf a ++ rowOf b := by
  induction a with
  | nil => rfl
  | cons x r ih => simp [rowOf, ih]

theorem rowOf_getD (bs : List UInt8) (j : Nat) : (rowOf bs).getD j false = bitAt bs j := by
  induction bs generalizing j with
  | nil => simp [rowOf, bitAt]
  | cons b r ih =>
    rw [rowOf, getD_append', digits_length, digits_getD]
    by_cases h : j < 8
    · rw [if_pos h]
      simp [bitAt, h, show j / 8 = 0 by omega, show j % 8 = j by omega]
    · rw [if_neg h, ih]
      simp only [bitAt]
      rw [show j / 8 = (j - 8) / 8 + 1 by omega, show j % 8 = (j - 8) % 8 by omega, List.getD_cons_succ]

theorem PackOf.row (bs : List UInt8) : PackOf bs (rowOf bs) := ⟨by simp; omega, fun j => (rowOf_getD bs j).symm⟩

theorem PackOf.drop {bs : List UInt8} {l : List Bool} (h : PackOf bs l) (k : Nat) : PackOf (bs.drop k) (l.drop (8 * k)) := by
  refine ⟨by simp [h.1]; omega, fun j => ?_⟩
  have := h.2 (8 * k + j)
  simp only [bitAt, List.getD_eq_getElem?_getD, List.getElem?_drop] at this ⊢
  rw [← this, show (8 * k + j) / 8 = k + j / 8 by omega, show (8 * k + j) % 8 = j % 8 by omega]

/-- The first byte of packed bits. -/
theorem PackOf.cons {bs : List UInt8} {l : List Bool} (x : UInt8) (hl : l ≠ []) (h : PackOf bs (l.drop 8)) (hx : ∀ p, p < 8 → x.toNat.testBit (7 - p) = l.getD p false) : PackOf (x :: bs) l := by
  have : 0 < l.length := List.length_pos_iff.2 hl
  refine ⟨by simp [h.1]; omega, fun j => ?_⟩
  by_cases hj : j < 8
  · rw [bitAt, show j / 8 = 0 by omega, show j % 8 = j by omega]
    exact hx j hj
  · have := h.2 (j - 8)
    simp only [bitAt, List.getD_eq_getElem?_getD, List.getElem?_drop] at this ⊢
    rw [show j / 8 = (j - 8) / 8 + 1 by omega, show j % 8 = (j - 8) % 8 by omega, List.getElem?_cons_succ, this, show 8 + (j - 8) = j by omega]


theorem number_row (bs : List UInt8) (at_ k : Nat) (hb : at_ / 8 < bs.length) (hk : k ≤ 8 - at_ % 8) :
    ((rowOf bs).drop at_).take k = digits ((bs.getD (at_ / 8) 0).toNat >>> (8 - at_ % 8 - k)) k := by
  have hl : (((rowOf bs).drop at_).take k).length = k := by simp; omega
  apply ext_getD (by simp [hl])
  intro j
  rw [digits_getD]
  by_cases hj : j < k
  · have h1 := rowOf_getD bs (at_ + j)
    simp only [List.getD_eq_getElem?_getD, List.getElem?_take, List.getElem?_drop, if_pos hj] at h1 ⊢
    rw [h1, bitAt, Nat.testBit_shiftRight, show (at_ + j) / 8 = at_ / 8 by omega, show 7 - (at_ + j) % 8 = 8 - at_ % 8 - k + (k - 1 - j) by omega]
    simp [hj, List.getD_eq_getElem?_getD]
  · rw [List.getD_eq_getElem?_getD, List.getElem?_eq_none (by omega)]
    simp [hj]

theorem take_add' {α : Type} (l : List α) (a k : Nat) : l.take (a + k) = l.take a ++ (l.drop a).take k := by
  rw [List.take_add]

theorem number_zero_iff (l : List Bool) : number l = 0 ↔ ∀ b ∈ l, b = false := by
  induction l with
  | nil => simp [number]
  | cons b l ih =>
    rw [number_cons]
    cases b with
    | false => simp [ih]
    | true => simp

theorem testBit_number (l : List Bool) (j : Nat) (hj : j < l.length) : (number l).testBit (l.length - 1 - j) = l.getD j false := by
  conv => rhs; rw [← digits_number l]
  rw [digits_getD]
  simp [hj]

/-- The t-th eight bits, filled up. -/
def eight (l : List Bool) (t : Nat) : List Bool := (List.range 8).map fun k => l.getD (8 * t + k) false

@[simp] theorem eight_length (l : List Bool) (t : Nat) : (eight l t).length = 8 := by simp [eight]

theorem eight_getD (l : List Bool) (t k : Nat) (hk : k < 8) : (eight l t).getD k false = l.getD (8 * t + k) false := by
  simp [eight, List.getD_eq_getElem?_getD, hk]

theorem eight_lt (l : List Bool) (t : Nat) : number (eight l t) < 256 := by
  have := number_lt (eight l t)
  simpa using this

theorem bitAt_push (bs : List UInt8) (l : List Bool) (h : ∀ j, j < 8 * bs.length → bitAt bs j = l.getD j false) (j : Nat) (hj : j < 8 * (bs.length + 1)) :
    bitAt (bs ++ [UInt8.ofNat (number (eight l bs.length))]) j = l.getD j false := by
  by_cases h8 : j < 8 * bs.length
  · rw [← h j h8]
    simp only [bitAt, List.getD_eq_getElem?_getD, List.getElem?_append]
    rw [if_pos (by omega)]
  · have e : j / 8 = bs.length := by omega
    have hx : (UInt8.ofNat (number (eight l bs.length))).toNat = number (eight l bs.length) := by
      simp only [UInt8.toNat_ofNat']; exact Nat.mod_eq_of_lt (eight_lt l _)
    simp only [bitAt, List.getD_eq_getElem?_getD, List.getElem?_append, e, Nat.lt_irrefl, if_false, Nat.sub_self, List.getElem?_cons_zero, Option.getD_some]
    rw [hx]
    have := testBit_number (eight l bs.length) (j % 8) (by simp; omega)
    rw [eight_length, show 8 - 1 - j % 8 = 7 - j % 8 by omega, eight_getD l _ _ (by omega), show 8 * bs.length + j % 8 = j by omega] at this
    rw [this, List.getD_eq_getElem?_getD]

theorem PackOf.of_eight {bs : List UInt8} {l : List Bool} (hl : bs.length = (l.length + 7) / 8) (h : ∀ j, j < 8 * bs.length → bitAt bs j = l.getD j false) : PackOf bs l := by
  refine ⟨hl, fun j => ?_⟩
  by_cases hj : j < 8 * bs.length
  · exact h j hj
  · rw [bitAt, List.getD_eq_getElem?_getD, List.getElem?_eq_none (by omega), List.getD_eq_getElem?_getD, List.getElem?_eq_none (by omega)]
    simp

theorem number_take_succ (l : List Bool) (k : Nat) (h : k < l.length) : number (l.take (k + 1)) = 2 * number (l.take k) + (l.getD k false).toNat := by
  rw [List.take_add_one, List.getElem?_eq_getElem h, List.getD_eq_getElem?_getD, List.getElem?_eq_getElem h]
  exact number_append _ _
end Go.Proofs.Ytfjlepnodmeaaaa
