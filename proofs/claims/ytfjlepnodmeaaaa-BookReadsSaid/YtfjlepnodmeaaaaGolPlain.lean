/-
  Plain facts of numbers' codes, foldings and of what is got of bits; no program text here.
-/
import Derived.Test.YtfjlepnodmeaaaaBitsPlain
import Derived.Test.YtfjlepnodmeaaaaMem
import Derived.Handy
namespace Go.Proofs.Ytfjlepnodmeaaaa
open Go.RowKit

/-- How many bits a number's code has. -/
def clen (v : Nat) : Nat := 2 * (v + 1).log2 + 1
/-- A number's code. -/
def code (v : Nat) : List Bool := digits (v + 1) (clen v)
@[simp] theorem code_length (v : Nat) : (code v).length = clen v := by simp [code]

/-- How many bits 0 come first. -/
def zeros : List Bool → Nat
  | false :: l => zeros l + 1
  | _ => 0

/-- What a get answers of the bits l at i: the number, the error, and where the reader is behind it. -/
def gget (l : List Bool) (i : Nat) : Nat × Int × Nat :=
  if 32 ≤ zeros (l.drop i) then (0, 21, i) else if l.length < i + (2 * zeros (l.drop i) + 1) then (0, 11, i)
  else (number ((l.drop i).take (2 * zeros (l.drop i) + 1)) - 1, 0, i + (2 * zeros (l.drop i) + 1))

theorem log2_small {v : Nat} (h : v ≤ 4294967294) : (v + 1).log2 ≤ 31 := by
  have := (Nat.log2_lt (n := v + 1) (k := 32) (by omega)).2 (by omega)
  omega
theorem clen_le {v : Nat} (h : v ≤ 4294967294) : clen v ≤ 63 := by have := log2_small h; unfold clen; omega
theorem clen_pos (v : Nat) : 1 ≤ clen v := by unfold clen; omega
theorem lt_clen (v : Nat) : v + 1 < 2 ^ clen v := Nat.lt_of_lt_of_le Nat.lt_log2_self (Nat.pow_le_pow_right (by omega) (by unfold clen; omega))
theorem number_code (v : Nat) : number (code v) = v + 1 := number_digits_lt (lt_clen v)

theorem zeros_le (l : List Bool) : zeros l ≤ l.length := by
  induction l with
  | nil => simp [zeros]
  | cons b l ih => cases b <;> simp [zeros]; omega
theorem zeros_at (l : List Bool) : ∀ k, k < zeros l → l.getD k false = false := by
  induction l with
  | nil => intro k hk; simp
  | cons b l ih =>
    intro k hk
    cases b
    · cases k with
      | zero => rfl
      | succ k => simpa using ih k (by simp [zeros] at hk; omega)
    · simp [zeros] at hk
theorem zeros_one (l : List Bool) (h : zeros l < l.length) : l.getD (zeros l) false = true := by
  induction l with
  | nil => simp at h
  | cons b l ih =>
    cases b
    · simpa [zeros] using ih (by simpa [zeros] using h)
    · rfl
/-- Bits 0, as many as named, and a bit 1 behind them. -/
theorem zeros_eq (l : List Bool) (n : Nat) (h0 : ∀ k, k < n → l.getD k false = false) (h1 : l.getD n false = true) : zeros l = n := by
  have hn : n < l.length := by
    rcases Nat.lt_or_ge n l.length with h | h
    · exact h
    · rw [List.getD_eq_getElem?_getD, List.getElem?_eq_none h] at h1; simp at h1
  rcases Nat.lt_trichotomy (zeros l) n with h | h | h
  · have := zeros_one l (by omega)
    rw [h0 _ h] at this; cases this
  · exact h
  · have := zeros_at l n h
    rw [h1] at this; cases this
theorem le_zeros (l : List Bool) (n : Nat) (hn : n ≤ l.length) (h0 : ∀ k, k < n → l.getD k false = false) : n ≤ zeros l := by
  rcases Nat.lt_or_ge (zeros l) n with h | h
  · have := zeros_one l (by omega)
    rw [h0 _ h] at this; cases this
  · exact h

theorem number_zeros (l : List Bool) (n : Nat) (hn : n ≤ l.length) (h0 : ∀ k, k < n → l.getD k false = false) : number l = number (l.drop n) := by
  have : number (l.take n) = 0 := by
    rw [number_zero_iff]
    intro b hb
    obtain ⟨k, hk, e⟩ := List.getElem_of_mem hb
    have h2 := h0 k (by simp at hk; omega)
    rw [List.getD_eq_getElem?_getD, List.getElem?_eq_getElem (by simp at hk; omega)] at h2
    simp at e h2
    rw [← e]; exact h2
  conv => lhs; rw [← List.take_append_drop n l, number_app, this]
  simp

/-- The number that is got is at least 1 and has no more bits than come behind the bits 0. -/
theorem got_bounds (l : List Bool) (z : Nat) (hz : zeros l = z) (hl : 2 * z + 1 ≤ l.length) : 1 ≤ number (l.take (2 * z + 1)) ∧ number (l.take (2 * z + 1)) < 2 ^ (z + 1) := by
  have hT : (l.take (2 * z + 1)).length = 2 * z + 1 := by simp; omega
  have hget : ∀ k, k < 2 * z + 1 → (l.take (2 * z + 1)).getD k false = l.getD k false := by
    intro k hk
    simp [List.getD_eq_getElem?_getD, hk]
  constructor
  · rcases Nat.eq_zero_or_pos (number (l.take (2 * z + 1))) with h | h
    · rw [number_zero_iff] at h
      have h1 := zeros_one l (by omega)
      rw [hz, ← hget z (by omega), List.getD_eq_getElem?_getD, List.getElem?_eq_getElem (by omega)] at h1
      have := h _ (List.getElem_mem (by omega : z < (l.take (2 * z + 1)).length))
      simp at h1 this
      rw [this] at h1; cases h1
    · exact h
  · rw [number_zeros _ z (by omega) (fun k hk => by rw [hget k (by omega)]; exact zeros_at l k (by omega))]
    have := number_lt ((l.take (2 * z + 1)).drop z)
    rw [List.length_drop, hT, show 2 * z + 1 - z = z + 1 by omega] at this
    exact this

theorem gget_le (l : List Bool) (i : Nat) (hi : i ≤ l.length) : (gget l i).2.2 ≤ l.length ∧ i ≤ (gget l i).2.2 := by
  unfold gget
  split
  · exact ⟨hi, Nat.le_refl _⟩
  · split
    · exact ⟨hi, Nat.le_refl _⟩
    · simp only; omega
theorem gget_num (l : List Bool) (i : Nat) : (gget l i).1 ≤ 4294967294 := by
  unfold gget
  split
  · simp
  · split
    · simp
    · rename_i h1 h2
      have hb := (got_bounds (l.drop i) _ rfl (by simp; omega)).2
      have : 2 ^ (zeros (l.drop i) + 1) ≤ 2 ^ 32 := Nat.pow_le_pow_right (by omega) (by omega)
      simp only; omega

theorem code_getD (v k : Nat) : (code v).getD k false = (decide (k < clen v) && (v + 1).testBit (clen v - 1 - k)) := by rw [code, digits_getD]
theorem code_zeros (v : Nat) (m : List Bool) : zeros (code v ++ m) = (v + 1).log2 := by
  apply zeros_eq
  · intro k hk
    rw [getD_append', if_pos (by simp [clen]; omega), code_getD]
    rw [Nat.testBit_lt_two_pow]
    · simp
    · exact Nat.lt_of_lt_of_le Nat.lt_log2_self (Nat.pow_le_pow_right (by omega) (by unfold clen; omega))
  · rw [getD_append', if_pos (by simp [clen]; omega), code_getD, show clen v - 1 - (v + 1).log2 = (v + 1).log2 by unfold clen; omega]
    have h1 : 2 ^ (v + 1).log2 ≤ v + 1 := Nat.log2_self_le (by omega)
    have h2 : v + 1 < 2 ^ ((v + 1).log2 + 1) := Nat.lt_log2_self
    have h3 : (v + 1) / 2 ^ (v + 1).log2 = 1 := by
      rw [Nat.pow_succ] at h2
      exact Nat.div_eq_of_lt_le (by omega) (by omega)
    rw [Nat.testBit_eq_decide_div_mod_eq, h3]
    have h4 : (v + 1).log2 < clen v := by unfold clen; omega
    simp [h4]

/-- What was put is got. -/
theorem gget_code (l : List Bool) (i v : Nat) (m : List Bool) (hv : v ≤ 4294967294) (h : l.drop i = code v ++ m) (hi : i ≤ l.length) : gget l i = (v, 0, i + clen v) := by
  have hl : l.length = i + clen v + m.length := by
    have := congrArg List.length h
    simp at this; omega
  unfold gget
  rw [h, code_zeros]
  have h1 := log2_small hv
  rw [if_neg (by omega), if_neg (by unfold clen at hl; omega)]
  have e : 2 * (v + 1).log2 + 1 = (code v).length := by simp [clen]
  rw [show 2 * (v + 1).log2 + 1 = (code v).length by simp [clen], List.take_left, number_code]
  simp

/-- Whether a number with a sign folds. -/
def folds (x : Int) : Prop := -2147483647 ≤ x ∧ x ≤ 2147483647
instance (x : Int) : Decidable (folds x) := inferInstanceAs (Decidable (_ ∧ _))
/-- What it folds into. -/
def folded (x : Int) : Nat := if 0 < x then (2 * x - 1).toNat else (-2 * x).toNat
/-- The number that folds into v. -/
def unfolded (v : Nat) : Int := if 4294967294 < v then 0 else if v % 2 = 1 then ((v + 1) / 2 : Nat) else -((v / 2 : Nat) : Int)
theorem folded_le {x : Int} (h : folds x) : folded x ≤ 4294967294 := by unfold folds at h; unfold folded; split <;> omega
theorem unfolded_folded {x : Int} (h : folds x) : unfolded (folded x) = x := by
  have := folded_le h
  unfold folds at h
  unfold unfolded
  rw [if_neg (by omega)]
  unfold folded
  split <;> split <;> omega

theorem i64_xor_ones (a : Int) (h0 : -9223372036854775808 ≤ a) (h1 : a ≤ 9223372036854775807) : bits .xor .i64 a (-1) = -1 - a := by
  show IntKind.i64.wrap ((BitVec.ofInt 64 a ^^^ BitVec.ofInt 64 (-1)).toNat : Int) = _
  rw [show BitVec.ofInt 64 (-1) = BitVec.allOnes 64 by decide, BitVec.xor_allOnes, BitVec.toNat_not, BitVec.toNat_ofInt, IntKind.wrap_i64]
  omega
theorem i64_xor_none (a : Int) (h0 : -9223372036854775808 ≤ a) (h1 : a ≤ 9223372036854775807) : bits .xor .i64 a 0 = a := by
  show IntKind.i64.wrap ((BitVec.ofInt 64 a ^^^ BitVec.ofInt 64 0).toNat : Int) = _
  rw [show BitVec.ofInt 64 0 = 0#64 by decide, BitVec.xor_zero, BitVec.toNat_ofInt, IntKind.wrap_i64]
  omega
theorem u64_and_one (v : Nat) (h : v < 18446744073709551616) : bits .and .u64 (v : Int) 1 = ((v % 2 : Nat) : Int) := by
  rw [show (1 : Int) = ((1 : Nat) : Int) by rfl, u64_and_nat _ _ h (by omega)]
  rw [show (1 : Nat) = 2 ^ 1 - 1 by rfl, Nat.and_two_pow_sub_one_eq_mod]

/-- Of two numbers' codes the first bits, as many as the shorter has, are one number only for one number. -/
theorem code_prefix {a b : Nat} {m : Nat} (ha : m ≤ clen a) (hb : m ≤ clen b) (hm : m = clen a ∨ m = clen b) (h : number ((code a).take m) = number ((code b).take m)) : a = b := by
  have e : (code a).take m = (code b).take m := by
    have h1 : ((code a).take m).length = m := by simp; omega
    have h2 : ((code b).take m).length = m := by simp; omega
    have k1 := digits_number ((code a).take m)
    have k2 := digits_number ((code b).take m)
    rw [h1] at k1; rw [h2] at k2
    rw [← k1, ← k2, h]
  have hz : (a + 1).log2 = (b + 1).log2 := by
    rcases hm with rfl | rfl
    · have h1 : code a = (code b).take (clen a) := by
        rw [← e]; exact (List.take_of_length_le (by simp)).symm
      have h2 : code b = code a ++ (code b).drop (clen a) := by
        conv => lhs; rw [← List.take_append_drop (clen a) (code b)]
        rw [← h1]
      have h3 := code_zeros b []
      rw [List.append_nil, h2, code_zeros] at h3
      exact h3
    · have h1 : code b = (code a).take (clen b) := by
        rw [e]; exact (List.take_of_length_le (by simp)).symm
      have h2 : code a = code b ++ (code a).drop (clen b) := by
        conv => lhs; rw [← List.take_append_drop (clen b) (code a)]
        rw [← h1]
      have h3 := code_zeros a []
      rw [List.append_nil, h2, code_zeros] at h3
      exact h3.symm
  have hl : clen a = clen b := by unfold clen; rw [hz]
  have hm' : m = clen a ∧ m = clen b := by rcases hm with rfl | rfl <;> omega
  have h1 : (code a).take m = code a := List.take_of_length_le (by simp; omega)
  have h2 : (code b).take m = code b := List.take_of_length_le (by simp; omega)
  rw [h1, h2, number_code, number_code] at h
  omega
theorem clen_mono {a b : Nat} (h : a ≤ b) : clen a ≤ clen b := by
  unfold clen
  have h1 : 2 ^ (a + 1).log2 ≤ b + 1 := Nat.le_trans (Nat.log2_self_le (by omega)) (by omega)
  have := (Nat.le_log2 (by omega)).2 h1
  omega
end Go.Proofs.Ytfjlepnodmeaaaa
