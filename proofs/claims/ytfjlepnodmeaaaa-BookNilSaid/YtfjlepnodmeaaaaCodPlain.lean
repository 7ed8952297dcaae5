/-
  Plain facts on the coder of chances: the code as a number, the rest, there and back, one code. No program text here.
-/
namespace Go.Proofs.Ytfjlepnodmeaaaa

/-- Is it a chance? The chance behind a bit. -/
def rightC (c : Nat) : Prop := 31 ≤ c ∧ c ≤ 2017
instance (c : Nat) : Decidable (rightC c) := inferInstanceAs (Decidable (_ ∧ _))
def clampC (c : Nat) : Nat := min (max c 31) 2017
def nextC (c : Nat) (bit : Bool) : Nat := if bit then clampC c - clampC c / 32 else clampC c + (2048 - clampC c) / 32

theorem clampC_right (c : Nat) : rightC (clampC c) := by unfold clampC rightC; omega
theorem clampC_same {c : Nat} (h : rightC c) : clampC c = c := by unfold clampC rightC at *; omega
theorem nextC_right (c : Nat) (bit : Bool) : rightC (nextC c bit) := by
  have := clampC_right c
  unfold nextC
  generalize clampC c = d at this
  unfold rightC at *
  cases bit
  · simp only [Bool.false_eq_true, if_false]; omega
  · simp only [if_true]; omega

/-- The code's number, how many bytes it has, the range. -/
structure Enc where
  v : Nat
  n : Nat
  r : Nat
def encNew : Enc := ⟨0, 4, 4294967295⟩
def bnd (r c : Nat) : Nat := r / 2048 * c
def encBit (e : Enc) (c : Nat) (bit : Bool) : Enc := if bit then ⟨e.v + bnd e.r c, e.n, e.r - bnd e.r c⟩ else ⟨e.v, e.n, bnd e.r c⟩
def encScale (e : Enc) : Enc := if e.r < 16777216 then ⟨e.v * 256, e.n + 1, e.r * 256⟩ else e
def encPut (e : Enc) (c : Nat) (bit : Bool) : Enc := encScale (encBit e c bit)

structure Enc.Ok (e : Enc) : Prop where
  lo : 16777216 ≤ e.r
  hi : e.r ≤ 4294967295
  fit : e.v + e.r ≤ 256 ^ e.n
theorem encNew_ok : encNew.Ok := ⟨by decide, by decide, by decide⟩

theorem bnd_lo {r c : Nat} (h : 16777216 ≤ r) (hc : rightC c) : 253952 ≤ bnd r c := by
  have h1 : 8192 ≤ r / 2048 := by omega
  have h2 : 8192 * 31 ≤ r / 2048 * c := Nat.mul_le_mul h1 hc.1
  unfold bnd; omega
theorem bnd_hi {r c : Nat} (h : 16777216 ≤ r) (hc : rightC c) : bnd r c + 253952 ≤ r := by
  have h1 : 8192 ≤ r / 2048 := by omega
  have h2 : r / 2048 * c ≤ r / 2048 * 2017 := Nat.mul_le_mul_left _ hc.2
  unfold bnd; omega

theorem encBit_facts {e : Enc} {c : Nat} (he : e.Ok) (hc : rightC c) (bit : Bool) :
    (encBit e c bit).n = e.n ∧ e.v ≤ (encBit e c bit).v ∧ (encBit e c bit).v + (encBit e c bit).r ≤ e.v + e.r ∧ 253952 ≤ (encBit e c bit).r ∧ (encBit e c bit).r ≤ e.r := by
  have h1 := bnd_lo he.lo hc
  have h2 := bnd_hi he.lo hc
  unfold encBit
  cases bit
  · simp only [Bool.false_eq_true, if_false]; exact ⟨trivial, Nat.le_refl _, by omega, h1, by omega⟩
  · simp only [if_true]; exact ⟨trivial, by omega, by omega, by omega, by omega⟩

theorem encPut_ok {e : Enc} {c : Nat} (he : e.Ok) (hc : rightC c) (bit : Bool) : (encPut e c bit).Ok := by
  obtain ⟨h1, h2, h3, h4, h5⟩ := encBit_facts he hc bit
  have h6 := he.hi
  have h7 := he.fit
  unfold encPut encScale
  generalize encBit e c bit = f at *
  by_cases hr : f.r < 16777216
  · rw [if_pos hr]
    refine ⟨by simp only; omega, by simp only; omega, ?_⟩
    simp only
    rw [h1, Nat.pow_succ]
    have : f.v + f.r ≤ 256 ^ e.n := by omega
    omega
  · rw [if_neg hr]
    exact ⟨by omega, by omega, by rw [h1]; omega⟩

theorem encPut_n (e : Enc) (c : Nat) (bit : Bool) : e.n ≤ (encPut e c bit).n ∧ (encPut e c bit).n ≤ e.n + 1 := by
  have h : (encBit e c bit).n = e.n := by unfold encBit; cases bit <;> rfl
  unfold encPut encScale
  split
  · simp only; omega
  · omega

/-- Bits put, each with its chance. -/
def puts (e : Enc) (l : List (Nat × Bool)) : Enc := l.foldl (fun e a => encPut e a.1 a.2) e
def Rights (l : List (Nat × Bool)) : Prop := ∀ a ∈ l, rightC a.1
theorem puts_append (e : Enc) (a b : List (Nat × Bool)) : puts e (a ++ b) = puts (puts e a) b := List.foldl_append
theorem puts_ok {e : Enc} (he : e.Ok) : ∀ {l : List (Nat × Bool)}, Rights l → (puts e l).Ok
  | [], _ => he
  | a :: l, h => puts_ok (encPut_ok he (h a (List.mem_cons_self ..)) a.2) (l := l) fun x hx => h x (List.mem_cons_of_mem _ hx)

/-- What is put behind stays within the range. -/
theorem puts_within {e : Enc} (he : e.Ok) : ∀ {l : List (Nat × Bool)}, Rights l →
    e.n ≤ (puts e l).n ∧ e.v * 256 ^ ((puts e l).n - e.n) ≤ (puts e l).v ∧ (puts e l).v + (puts e l).r ≤ (e.v + e.r) * 256 ^ ((puts e l).n - e.n)
  | [], _ => by simp [puts]
  | a :: l, h => by
    have ha := h a (List.mem_cons_self ..)
    obtain ⟨i1, i2, i3⟩ := puts_within (encPut_ok he ha a.2) (l := l) fun x hx => h x (List.mem_cons_of_mem _ hx)
    change (encPut e a.1 a.2).n ≤ (puts e (a :: l)).n at i1
    change (encPut e a.1 a.2).v * 256 ^ ((puts e (a :: l)).n - _) ≤ (puts e (a :: l)).v at i2
    change (puts e (a :: l)).v + (puts e (a :: l)).r ≤ ((encPut e a.1 a.2).v + (encPut e a.1 a.2).r) * 256 ^ ((puts e (a :: l)).n - _) at i3
    generalize puts e (a :: l) = f at *
    obtain ⟨h1, h2, h3, -, -⟩ := encBit_facts he ha a.2
    unfold encPut encScale at i1 i2 i3
    generalize encBit e a.1 a.2 = g at *
    by_cases hr : g.r < 16777216
    · rw [if_pos hr] at i1 i2 i3
      simp only at i1 i2 i3
      rw [h1] at i1 i2 i3
      have hk : f.n - e.n = (f.n - (e.n + 1)) + 1 := by omega
      refine ⟨by omega, ?_, ?_⟩
      · rw [hk, Nat.pow_succ, Nat.mul_comm (256 ^ _), ← Nat.mul_assoc]
        exact Nat.le_trans (Nat.mul_le_mul_right _ (by omega)) i2
      · rw [hk, Nat.pow_succ, Nat.mul_comm (256 ^ _), ← Nat.mul_assoc]
        exact Nat.le_trans i3 (Nat.mul_le_mul_right _ (by omega))
    · rw [if_neg hr, h1] at i1 i2 i3
      exact ⟨i1, Nat.le_trans (Nat.mul_le_mul_right _ h2) i2, Nat.le_trans i3 (Nat.mul_le_mul_right _ h3)⟩

/-- A number's n lowest bytes, the highest first; bytes' number. -/
def bytesOf : Nat → Nat → List UInt8
  | 0, _ => []
  | n + 1, v => bytesOf n (v / 256) ++ [UInt8.ofNat (v % 256)]
def valueOf (bs : List UInt8) : Nat := bs.foldl (fun a b => 256 * a + b.toNat) 0
theorem valueOf_snoc (bs : List UInt8) (b : UInt8) : valueOf (bs ++ [b]) = 256 * valueOf bs + b.toNat := by simp [valueOf]
@[simp] theorem bytesOf_length : ∀ n v, (bytesOf n v).length = n
  | 0, _ => rfl
  | n + 1, v => by simp [bytesOf, bytesOf_length n]
theorem bytesOf_zero (n v : Nat) : bytesOf (n + 1) (v * 256) = bytesOf n v ++ [0] := by
  show bytesOf n (v * 256 / 256) ++ [UInt8.ofNat (v * 256 % 256)] = _
  rw [Nat.mul_div_cancel _ (by omega), Nat.mul_mod_left]
  rfl
theorem valueOf_bytesOf : ∀ n v, valueOf (bytesOf n v) = v % 256 ^ n
  | 0, v => by simp [bytesOf, valueOf, Nat.mod_one]
  | n + 1, v => by
    rw [bytesOf, valueOf_snoc, valueOf_bytesOf n, Nat.pow_succ]
    have h1 : (UInt8.ofNat (v % 256)).toNat = v % 256 := by simp
    rw [h1, Nat.mul_comm (256 ^ n) 256, Nat.mod_mul]
    omega
theorem snoc_cases (bs : List UInt8) : bs = [] ∨ ∃ a b, bs = a ++ [b] := by
  rcases List.eq_nil_or_concat bs with h | ⟨a, b, h⟩
  · exact .inl h
  · exact .inr ⟨a, b, by rw [h]; simp⟩
theorem bytesOf_valueOf (bs : List UInt8) : bytesOf bs.length (valueOf bs) = bs := by
  induction hn : bs.length generalizing bs with
  | zero => rw [List.length_eq_zero_iff.1 hn]; rfl
  | succ n ih =>
    rcases snoc_cases bs with rfl | ⟨a, b, rfl⟩
    · simp at hn
    · have hb := b.toNat_lt
      rw [bytesOf, valueOf_snoc, show (256 * valueOf a + b.toNat) / 256 = valueOf a by omega, show (256 * valueOf a + b.toNat) % 256 = b.toNat by omega, ih a (by simpa using hn)]
      simp
theorem take_bytesOf : ∀ n v i, i ≤ n → (bytesOf n v).take i = bytesOf i (v / 256 ^ (n - i))
  | 0, v, i, h => by
    obtain rfl : i = 0 := by omega
    rfl
  | n + 1, v, i, h => by
    by_cases hi : i = n + 1
    · subst hi
      rw [Nat.sub_self, Nat.pow_zero, Nat.div_one, List.take_of_length_le (by simp)]
    · rw [bytesOf, List.take_append_of_le_length (by simp; omega), take_bytesOf n (v / 256) i (by omega), Nat.div_div_eq_div_mul, show n + 1 - i = (n - i) + 1 by omega, Nat.pow_succ, Nat.mul_comm]

theorem valueOf_append (a b : List UInt8) : valueOf (a ++ b) = valueOf a * 256 ^ b.length + valueOf b := by
  induction hn : b.length generalizing b with
  | zero => rw [List.length_eq_zero_iff.1 hn]; simp [valueOf]
  | succ n ih =>
    rcases snoc_cases b with rfl | ⟨c, d, rfl⟩
    · simp at hn
    · have hl : c.length = n := by simpa using hn
      rw [← List.append_assoc, valueOf_snoc, ih c hl, valueOf_snoc, Nat.pow_succ, Nat.mul_add, Nat.mul_comm (256 ^ n), ← Nat.mul_assoc (valueOf a), Nat.mul_comm (valueOf a) 256, Nat.mul_assoc, Nat.add_assoc]
theorem valueOf_set (bs : List UInt8) (i : Nat) (x : UInt8) (h : i < bs.length) :
    valueOf (bs.set i x) + (bs.getD i 0).toNat * 256 ^ (bs.length - 1 - i) = valueOf bs + x.toNat * 256 ^ (bs.length - 1 - i) := by
  have e0 : ∀ y : UInt8, valueOf (bs.take i ++ y :: bs.drop (i + 1)) = (256 * valueOf (bs.take i) + y.toNat) * 256 ^ (bs.length - 1 - i) + valueOf (bs.drop (i + 1)) := by
    intro y
    rw [show bs.take i ++ y :: bs.drop (i + 1) = (bs.take i ++ [y]) ++ bs.drop (i + 1) by simp, valueOf_append, valueOf_snoc, List.length_drop, show bs.length - (i + 1) = bs.length - 1 - i by omega]
  have e1 : bs.set i x = bs.take i ++ x :: bs.drop (i + 1) := List.set_eq_take_append_cons_drop.trans (by rw [if_pos h])
  have e2 : bs = bs.take i ++ bs.getD i 0 :: bs.drop (i + 1) := by
    rw [List.getD_eq_getElem?_getD, List.getElem?_eq_getElem h]
    simp
  have h1 := e0 x
  have h2 := e0 (bs.getD i 0)
  rw [← e1] at h1
  rw [← e2] at h2
  rw [h1, h2, Nat.add_mul, Nat.add_mul]
  omega
theorem valueOf_lt (bs : List UInt8) : valueOf bs < 256 ^ bs.length := by
  have h := bytesOf_valueOf bs
  have h2 := valueOf_bytesOf bs.length (valueOf bs)
  rw [h] at h2
  rw [h2]
  exact Nat.mod_lt _ (Nat.pow_pos (by omega))
theorem of_value {bs : List UInt8} {n v : Nat} (hl : bs.length = n) (hv : valueOf bs = v) : bs = bytesOf n v := by
  rw [← hl, ← hv, bytesOf_valueOf]

/-- How many bytes were read, the rest, the range. -/
structure Dec where
  i : Nat
  rest : Nat
  r : Nat
deriving DecidableEq
def decOpen (bs : List UInt8) : Dec := ⟨4, valueOf (bs.take 4), 4294967295⟩
def decScale (bs : List UInt8) (bit : Bool) (d : Dec) : Option (Bool × Dec) :=
  if d.r < 16777216 then if d.i < bs.length then some (bit, ⟨d.i + 1, 256 * d.rest + (bs.getD d.i 0).toNat, d.r * 256⟩) else none else some (bit, d)
def decBit (d : Dec) (c : Nat) : Bool × Dec := if d.rest < bnd d.r c then (false, ⟨d.i, d.rest, bnd d.r c⟩) else (true, ⟨d.i, d.rest - bnd d.r c, d.r - bnd d.r c⟩)
/-- A bit got with a chance, or the error. -/
def decGet (bs : List UInt8) (d : Dec) (c : Nat) : Option (Bool × Dec) := if d.rest < d.r then decScale bs (decBit d c).1 (decBit d c).2 else none

/-- The decoder is where the encoder is. -/
structure At (bs : List UInt8) (d : Dec) (e : Enc) : Prop where
  i : d.i = e.n
  r : d.r = e.r
  len : e.n ≤ bs.length
  val : valueOf (bs.take e.n) = e.v + d.rest

theorem at_open (bs : List UInt8) (h : 4 ≤ bs.length) : At bs (decOpen bs) encNew := ⟨rfl, rfl, h, by simp [decOpen, encNew]⟩

theorem take_value (bs : List UInt8) (i : Nat) (h : i < bs.length) : valueOf (bs.take (i + 1)) = 256 * valueOf (bs.take i) + (bs.getD i 0).toNat := by
  rw [List.take_add_one, List.getElem?_eq_getElem h, Option.toList_some, valueOf_snoc, List.getD_eq_getElem?_getD, List.getElem?_eq_getElem h]
  rfl

/-- What is got, put, is at the same place. -/
theorem at_got {bs : List UInt8} {d d' : Dec} {e : Enc} {c : Nat} {bit : Bool} (h : At bs d e) (hg : decGet bs d c = some (bit, d')) : At bs d' (encPut e c bit) := by
  unfold decGet at hg
  split at hg
  · have hb : decBit d c = (bit, (decBit d c).2) := by
      have : (decBit d c).1 = bit := by
        unfold decScale at hg
        split at hg
        · split at hg
          · injection hg with hg; injection hg
          · cases hg
        · injection hg with hg; injection hg
      rw [← this]
    have hm : At bs (decBit d c).2 (encBit e c bit) := by
      unfold decBit at hb ⊢
      unfold encBit
      rw [h.r] at hb ⊢
      by_cases h1 : d.rest < bnd e.r c
      · rw [if_pos h1] at hb ⊢
        injection hb with hb1
        subst hb1
        exact ⟨h.i, rfl, h.len, h.val⟩
      · rw [if_neg h1] at hb ⊢
        injection hb with hb1
        subst hb1
        exact ⟨h.i, rfl, h.len, by have := h.val; simp only [if_true]; omega⟩
    rw [hb] at hg
    simp only at hg
    unfold encPut encScale
    unfold decScale at hg
    rw [hm.r] at hg
    by_cases hr : (encBit e c bit).r < 16777216
    · rw [if_pos hr] at hg ⊢
      split at hg
      · rename_i hlt
        injection hg with hg
        injection hg with _ hg
        subst hg
        rw [hm.i] at hlt ⊢
        refine ⟨rfl, rfl, hlt, ?_⟩
        simp only
        rw [take_value _ _ hlt, hm.val]
        omega
      · cases hg
    · rw [if_neg hr] at hg ⊢
      injection hg with hg
      injection hg with _ hg
      subst hg
      exact hm
  · cases hg

/-- The rest behind a bit is less than the range. -/
theorem got_rest {bs : List UInt8} {d d' : Dec} {c : Nat} {bit : Bool} (hg : decGet bs d c = some (bit, d')) : d'.rest < d'.r := by
  unfold decGet at hg
  split at hg
  · rename_i hlt
    have hb : (decBit d c).2.rest < (decBit d c).2.r := by
      unfold decBit
      split
      · assumption
      · simp only; omega
    unfold decScale at hg
    generalize decBit d c = D at hb hg
    split at hg
    · split at hg
      · injection hg with hg
        injection hg with _ hg
        subst hg
        have := (bs.getD D.2.i 0).toNat_lt
        simp only
        omega
      · cases hg
    · injection hg with hg
      injection hg with _ hg
      subst hg
      exact hb
  · cases hg

/-- That was all: the bytes are the code. -/
theorem at_end {bs : List UInt8} {d : Dec} {e : Enc} (h : At bs d e) (hi : d.i = bs.length) (hr : d.rest = 0) : bytesOf e.n e.v = bs := by
  have h1 := h.val
  rw [hr, ← h.i, hi, List.take_length] at h1
  rw [← h.i, hi, ← Nat.add_zero e.v, ← h1]
  exact bytesOf_valueOf bs

/-- What was put is got. -/
theorem got_put {tail : List UInt8} {e : Enc} {d : Dec} {c : Nat} {bit : Bool} {l : List (Nat × Bool)} (he : e.Ok) (hl : Rights ((c, bit) :: l))
    (h : At (bytesOf (puts e ((c, bit) :: l)).n (puts e ((c, bit) :: l)).v ++ tail) d e) :
    ∃ d', decGet (bytesOf (puts e ((c, bit) :: l)).n (puts e ((c, bit) :: l)).v ++ tail) d c = some (bit, d') := by
  have hc : rightC c := hl (c, bit) (List.mem_cons_self ..)
  have hp := encPut_ok he hc bit
  obtain ⟨w1, w2, w3⟩ := puts_within hp (l := l) fun x hx => hl x (List.mem_cons_of_mem _ hx)
  have hfo := puts_ok he hl
  change (encPut e c bit).n ≤ (puts e ((c, bit) :: l)).n at w1
  change (encPut e c bit).v * 256 ^ ((puts e ((c, bit) :: l)).n - _) ≤ (puts e ((c, bit) :: l)).v at w2
  change (puts e ((c, bit) :: l)).v + (puts e ((c, bit) :: l)).r ≤ ((encPut e c bit).v + (encPut e c bit).r) * 256 ^ ((puts e ((c, bit) :: l)).n - _) at w3
  generalize puts e ((c, bit) :: l) = f at *
  have hfr := hfo.lo
  have hff := hfo.fit
  obtain ⟨b1, b2, b3, b4, b5⟩ := encBit_facts he hc bit
  have hn := encPut_n e c bit
  -- the number of the bytes up to where the decoder is
  have hval : f.v / 256 ^ (f.n - e.n) = e.v + d.rest := by
    have h1 := h.val
    rw [List.take_append_of_le_length (by simp; omega), take_bytesOf _ _ _ (by omega), valueOf_bytesOf, Nat.mod_eq_of_lt] at h1
    · exact h1
    · rw [Nat.div_lt_iff_lt_mul (Nat.pow_pos (by omega)), ← Nat.pow_add, show e.n + (f.n - e.n) = f.n by omega]
      omega
  -- it lies in the range of what was put
  have hin : (encBit e c bit).v ≤ e.v + d.rest ∧ e.v + d.rest < (encBit e c bit).v + (encBit e c bit).r := by
    rw [← hval]
    unfold encPut encScale at w1 w2 w3
    by_cases hr : (encBit e c bit).r < 16777216
    · rw [if_pos hr] at w1 w2 w3
      simp only at w1 w2 w3
      rw [b1] at w1 w2 w3
      have hk : f.n - e.n = (f.n - (e.n + 1)) + 1 := by omega
      have hpp : 256 ^ (f.n - e.n) = 256 * 256 ^ (f.n - (e.n + 1)) := by rw [hk, Nat.pow_succ, Nat.mul_comm]
      rw [hpp]
      have hpos : 0 < 256 * 256 ^ (f.n - (e.n + 1)) := Nat.mul_pos (by omega) (Nat.pow_pos (by omega))
      constructor
      · rw [Nat.le_div_iff_mul_le hpos, ← Nat.mul_assoc]; exact w2
      · rw [Nat.div_lt_iff_lt_mul hpos, ← Nat.mul_assoc, Nat.add_mul]
        omega
    · rw [if_neg hr, b1] at w1 w2 w3
      have hpos : 0 < 256 ^ (f.n - e.n) := Nat.pow_pos (by omega)
      constructor
      · rw [Nat.le_div_iff_mul_le hpos]; exact w2
      · rw [Nat.div_lt_iff_lt_mul hpos]; omega
  have hlt : d.rest < d.r := by rw [h.r]; omega
  have hbit : (decBit d c).1 = bit ∧ (decBit d c).2.r = (encBit e c bit).r ∧ (decBit d c).2.i = e.n := by
    unfold decBit
    rw [h.r]
    unfold encBit at hin ⊢
    cases bit
    · simp only [Bool.false_eq_true, if_false] at hin ⊢
      rw [if_pos (by omega)]
      exact ⟨rfl, rfl, h.i⟩
    · simp only [if_true] at hin ⊢
      rw [if_neg (by omega)]
      exact ⟨rfl, rfl, h.i⟩
  unfold decGet
  rw [if_pos hlt, hbit.1]
  unfold decScale
  rw [hbit.2.1]
  by_cases hr : (encBit e c bit).r < 16777216
  · have hn2 : (encPut e c bit).n = e.n + 1 := by unfold encPut encScale; rw [if_pos hr, ← b1]
    rw [if_pos hr, hbit.2.2, if_pos (by simp; omega)]
    exact ⟨_, rfl⟩
  · rw [if_neg hr]
    exact ⟨_, rfl⟩

/-- A code is as long as the bits that were put, at most. -/
theorem puts_n : ∀ (l : List (Nat × Bool)) (e : Enc), (puts e l).n ≤ e.n + l.length
  | [], e => by simp [puts]
  | a :: l, e => by
    have h1 := puts_n l (encPut e a.1 a.2)
    have h2 := (encPut_n e a.1 a.2).2
    change (puts e (a :: l)).n ≤ _ at h1
    simp only [List.length_cons]
    omega

/-- Zeros with the chance that follows them: how long the code becomes. -/
def zerosRun : Nat → Nat → Nat → Nat → Nat × Nat × Nat
  | 0, c, r, n => (c, r, n)
  | k + 1, c, r, n =>
    let b := bnd r c
    if b < 16777216 then zerosRun k (nextC c false) (b * 256) (n + 1) else zerosRun k (nextC c false) b n
def zerosFine : Nat → Nat → Nat → Nat → Nat → Bool
  | 0, _, _, _, _ => true
  | k + 1, j, c, r, n =>
    decide (n ≤ 13 + j / 300) && (let b := bnd r c
    if b < 16777216 then zerosFine k (j + 1) (nextC c false) (b * 256) (n + 1) else zerosFine k (j + 1) (nextC c false) b n)
theorem zeros_fine : zerosFine 4001 0 1024 4294967295 4 = true := by decide +kernel

/-- As many ones as may be: the least chance; as many zeros: the greatest. -/
def iterC (bit : Bool) : Nat → Nat → Nat
  | 0, c => c
  | n + 1, c => iterC bit n (nextC c bit)
theorem nextC_mono (bit : Bool) {c d : Nat} (hc : rightC c) (hd : rightC d) (h : c ≤ d) : nextC c bit ≤ nextC d bit := by
  unfold nextC
  rw [clampC_same hc, clampC_same hd]
  cases bit
  · simp only [Bool.false_eq_true, if_false]; omega
  · simp only [if_true]; omega
theorem iterC_mono (bit : Bool) : ∀ (n : Nat) {c d : Nat}, rightC c → rightC d → c ≤ d → iterC bit n c ≤ iterC bit n d
  | 0, _, _, _, _, h => h
  | n + 1, _, _, hc, hd, h => iterC_mono bit n (nextC_right _ _) (nextC_right _ _) (nextC_mono bit hc hd h)
theorem iter_least {c : Nat} (hc : rightC c) : iterC true 300 c = 31 := by
  have h1 := iterC_mono true 300 hc (d := 2017) ⟨by omega, by omega⟩ hc.2
  have h2 := iterC_mono true 300 (c := 31) ⟨by omega, by omega⟩ hc hc.1
  have h3 : iterC true 300 2017 = 31 := by decide +kernel
  have h4 : iterC true 300 31 = 31 := by decide +kernel
  omega
theorem iter_greatest {c : Nat} (hc : rightC c) : iterC false 300 c = 2017 := by
  have h1 := iterC_mono false 300 hc (d := 2017) ⟨by omega, by omega⟩ hc.2
  have h2 := iterC_mono false 300 (c := 31) ⟨by omega, by omega⟩ hc hc.1
  have h3 : iterC false 300 2017 = 2017 := by decide +kernel
  have h4 : iterC false 300 31 = 2017 := by decide +kernel
  omega
end Go.Proofs.Ytfjlepnodmeaaaa
