/-
  Plain facts on long division, bit by bit: the document's way and the fed bytes come to the same. No program text here.
-/
import Derived.Test.YtdpkhhmmoiianaaCrcFlip
namespace Go.Proofs.Ytdpkhhmmoiianaa

/-- One more factor: the remainder. -/
def dv (r : W32) (d : Bool) : W32 := st r ^^^ (if d then 1#32 <<< 31 else 0#32)
def dvs (r : W32) (l : List Bool) : W32 := l.foldl dv r

theorem dvs_append (r : W32) (a b : List Bool) : dvs r (a ++ b) = dvs (dvs r a) b := List.foldl_append

theorem dv_xor (r s : W32) (c d : Bool) : dv (r ^^^ s) (c ^^ d) = dv r c ^^^ dv s d := by
  unfold dv
  rw [st_xor]
  cases c <;> cases d <;> simp [BitVec.xor_assoc]
  · rw [BitVec.xor_comm (st s)]
  · rw [BitVec.xor_comm (st s), ← BitVec.xor_assoc]
    simp

theorem dvs_xor (r s : W32) (a b : List Bool) (h : a.length = b.length) : dvs (r ^^^ s) (List.zipWith (· ^^ ·) a b) = dvs r a ^^^ dvs s b := by
  induction a generalizing r s b with
  | nil => cases b <;> simp_all [dvs]
  | cons x a ih =>
    cases b with
    | nil => simp at h
    | cons y b =>
      show dvs (dv (r ^^^ s) (x ^^ y)) _ = dvs (dv r x) a ^^^ dvs (dv s y) b
      rw [dv_xor]
      exact ih _ _ _ (by simpa using h)

theorem dvs_none (r : W32) (n : Nat) : dvs r (List.replicate n false) = stN n r := by
  induction n generalizing r with
  | zero => rfl
  | succ n ih =>
    rw [List.replicate_succ]
    show dvs (dv r false) _ = _
    rw [ih]
    simp [dv, stN]

theorem dvs_split (r : W32) (l : List Bool) : dvs r l = stN l.length r ^^^ dvs 0#32 l := by
  have h := dvs_xor r 0#32 (List.replicate l.length false) l (by simp)
  rw [dvs_none, BitVec.xor_zero] at h
  rw [← h]
  congr 1
  apply List.ext_getElem (by simp)
  intro i h1 h2
  simp

/-- The bits of 32, the lowest first. -/
def bits32 (s : W32) (k : Nat) : List Bool := (List.range k).map fun i => s.getLsbD i

theorem bits32_succ (s : W32) (k : Nat) : bits32 s (k + 1) = bits32 s k ++ [s.getLsbD k] := by simp [bits32, List.range_succ]

theorem low_getLsbD (s : W32) (k i : Nat) : (BitVec.ofNat 32 (s.toNat % 2 ^ k)).getLsbD i = (decide (i < 32) && (decide (i < k) && s.getLsbD i)) := by
  rw [BitVec.getLsbD_ofNat, Nat.testBit_mod_two_pow]; rfl

theorem top_bit : ∀ i, i < 32 → (1#32 <<< 31).getLsbD i = decide (i = 31) := by decide +kernel

theorem load_bits (s : W32) : ∀ k, k ≤ 32 → dvs 0#32 (bits32 s k) = BitVec.ofNat 32 (s.toNat % 2 ^ k) <<< (32 - k)
  | 0, _ => by simp [bits32, dvs, Nat.mod_one]
  | k + 1, h => by
    rw [bits32_succ, dvs_append, load_bits s k (by omega)]
    show dv _ _ = _
    unfold dv
    rw [st_shift (by simp [show 0 < 32 - k by omega])]
    apply BitVec.eq_of_getLsbD_eq
    intro i hi
    have e1 : (if s.getLsbD k then 1#32 <<< 31 else 0#32).getLsbD i = (s.getLsbD k && decide (i = 31)) := by
      cases s.getLsbD k
      · simp
      · rw [if_pos rfl, top_bit i hi, Bool.true_and]
    rw [BitVec.getLsbD_xor, e1, BitVec.getLsbD_ushiftRight, BitVec.getLsbD_shiftLeft, BitVec.getLsbD_shiftLeft, low_getLsbD, low_getLsbD]
    obtain ⟨m, hm⟩ : ∃ m, k + m = 31 := ⟨31 - k, by omega⟩
    rw [show 32 - (k + 1) = m by omega, show 32 - k = m + 1 by omega]
    by_cases h1 : i < m
    · rw [decide_eq_true h1, decide_eq_true (show 1 + i < m + 1 by omega), decide_eq_false (show ¬ i = 31 by omega)]; simp
    · rw [decide_eq_false h1, decide_eq_false (show ¬ 1 + i < m + 1 by omega), show 1 + i - (m + 1) = i - m by omega, decide_eq_true hi, decide_eq_true (show i - m < 32 by omega)]
      by_cases h2 : i = 31
      · subst h2
        rw [show 31 - m = k by omega, decide_eq_false (show ¬ k < k by omega), decide_eq_true (show k < k + 1 by omega)]; simp
      · rw [decide_eq_false h2, decide_eq_true (show i - m < k by omega), decide_eq_true (show i - m < k + 1 by omega), decide_eq_true (show 1 + i < 32 by omega)]; simp

theorem load_all (s : W32) : dvs 0#32 (bits32 s 32) = s := by
  rw [load_bits s 32 (Nat.le_refl _), Nat.mod_eq_of_lt s.isLt]; simp

/-- A byte's bits, the lowest first; bytes' bits. -/
def bits8 (c : UInt8) : List Bool := (List.range 8).map fun i => c.toNat.testBit i
def bitsOf (bs : List UInt8) : List Bool := bs.flatMap bits8
theorem bits8_length (c : UInt8) : (bits8 c).length = 8 := by simp [bits8]
theorem bitsOf_length (bs : List UInt8) : (bitsOf bs).length = 8 * bs.length := by
  induction bs with
  | nil => rfl
  | cons c bs ih => simp only [bitsOf, List.flatMap_cons, List.length_append, bits8_length, List.length_cons] at ih ⊢; omega
theorem bitsOf_cons (c : UInt8) (bs : List UInt8) : bitsOf (c :: bs) = bits8 c ++ bitsOf bs := rfl
theorem bitsOf_append (a b : List UInt8) : bitsOf (a ++ b) = bitsOf a ++ bitsOf b := by simp [bitsOf]

theorem bits8_32 (c : UInt8) : bits8 c = bits32 (BitVec.ofNat 32 c.toNat) 8 := by
  unfold bits8 bits32
  apply List.map_congr_left
  intro i hi
  have : i < 8 := by simpa using hi
  rw [BitVec.getLsbD_ofNat, decide_eq_true (show i < 32 by omega), Bool.true_and]

theorem load_byte (c : UInt8) : dvs 0#32 (bits8 c) = BitVec.ofNat 32 c.toNat <<< 24 := by
  have hc := c.toNat_lt
  rw [bits8_32, load_bits _ 8 (by omega)]
  congr 1
  rw [BitVec.toNat_ofNat]
  congr 1
  omega

theorem stN_comm (m n : Nat) (s : W32) : stN m (stN n s) = stN n (stN m s) := by rw [← stN_add, ← stN_add, Nat.add_comm]

theorem byte_fed (r : W32) (c : UInt8) : stN 32 (dvs r (bits8 c)) = feed (stN 32 r) c := by
  have hc := c.toNat_lt
  have h1 : stN 24 (BitVec.ofNat 32 c.toNat <<< 24) = BitVec.ofNat 32 c.toNat := by
    rw [stN_shift _ _ (fun i hi => by simp [hi])]
    apply BitVec.eq_of_getLsbD_eq
    intro i hi
    simp only [BitVec.getLsbD_ushiftRight, BitVec.getLsbD_shiftLeft, BitVec.getLsbD_ofNat]
    by_cases h : i < 8
    · simp [hi, show 24 + i < 32 by omega]
    · have : c.toNat.testBit i = false := Nat.testBit_lt_two_pow (Nat.lt_of_lt_of_le hc (Nat.pow_le_pow_right (by omega) (show 8 ≤ i by omega)))
      simp [this]
  have h2 : ∀ X : W32, stN 32 X = stN 8 (stN 24 X) := fun X => stN_add 24 8 X
  have h3 := dvs_split r (bits8 c)
  rw [bits8_length, load_byte] at h3
  rw [h3, stN_xor, stN_comm 32 8 r, h2 (BitVec.ofNat 32 c.toNat <<< 24), h1]
  unfold feed
  rw [stN_xor]

theorem bytes_fed (r : W32) (bs : List UInt8) : stN 32 (dvs r (bitsOf bs)) = run (stN 32 r) bs := by
  induction bs generalizing r with
  | nil => rfl
  | cons c bs ih => rw [bitsOf_cons, dvs_append, ih, byte_fed, run_cons]

/-- The bits of bytes and 32 noughts, the first 32 turned by s's. -/
def headed (s : W32) (l : List Bool) : List Bool := List.zipWith (· ^^ ·) (l ++ List.replicate 32 false) (bits32 s 32 ++ List.replicate l.length false)

theorem bits32_length (s : W32) (k : Nat) : (bits32 s k).length = k := by simp [bits32]

theorem headed_run (s : W32) (bs : List UInt8) : dvs 0#32 (headed s (bitsOf bs)) = run s bs := by
  unfold headed
  have h := dvs_xor 0#32 0#32 (bitsOf bs ++ List.replicate 32 false) (bits32 s 32 ++ List.replicate (bitsOf bs).length false) (by simp [bits32_length]; omega)
  rw [BitVec.xor_zero] at h
  rw [h, dvs_append, dvs_append, dvs_none, dvs_none, load_all, bytes_fed, stN_zero, run_split s bs, bitsOf_length, BitVec.xor_comm]

theorem entry_tab (c : UInt8) : dvs 0#32 (bitsOf [c] ++ List.replicate 32 false) = tab c.toNat := by
  rw [dvs_append, dvs_none, bytes_fed, stN_zero]
  simp [run, feed, tab]
end Go.Proofs.Ytdpkhhmmoiianaa
