/-
  Plain facts on sums: 32 bits as a remainder (bit 0 the highest power's factor), one step of division, bytes fed. No program text here.
-/
namespace Go.Proofs.Ytdpkhhmmoiianaa

abbrev W32 := BitVec 32

/-- The polynomial without its highest power. -/
def poly : W32 := 0xEDB88320#32

/-- A remainder times x. -/
def st (s : W32) : W32 := (s >>> 1) ^^^ (if s.getLsbD 0 then poly else 0#32)

/-- .. n times. -/
def stN : Nat → W32 → W32
  | 0, s => s
  | n + 1, s => stN n (st s)

/-- A byte behind. -/
def feed (s : W32) (c : UInt8) : W32 := stN 8 (s ^^^ BitVec.ofNat 32 c.toNat)

/-- Bytes behind. -/
def run (s : W32) (bs : List UInt8) : W32 := bs.foldl feed s

theorem st_zero : st 0#32 = 0#32 := by decide

theorem st_xor (a b : W32) : st (a ^^^ b) = st a ^^^ st b := by
  unfold st
  rw [BitVec.getLsbD_xor, BitVec.ushiftRight_xor_distrib]
  cases ha : a.getLsbD 0 <;> cases hb : b.getLsbD 0
  · simp
  · simp [BitVec.xor_assoc]
  · simp only [Bool.true_xor, Bool.not_false, if_true, Bool.false_eq_true, if_false, BitVec.xor_zero]
    rw [BitVec.xor_assoc, BitVec.xor_assoc, BitVec.xor_comm (b >>> 1)]
  · simp only [Bool.true_xor, Bool.not_true, Bool.false_eq_true, if_true, if_false, BitVec.xor_zero]
    rw [show a >>> 1 ^^^ poly ^^^ (b >>> 1 ^^^ poly) = a >>> 1 ^^^ b >>> 1 ^^^ (poly ^^^ poly) by ac_rfl]
    simp

theorem stN_add (m n : Nat) (s : W32) : stN (m + n) s = stN n (stN m s) := by
  induction m generalizing s with
  | zero => simp [stN]
  | succ m ih => rw [show m + 1 + n = (m + n) + 1 by omega]; exact ih (st s)

theorem stN_succ (n : Nat) (s : W32) : stN (n + 1) s = st (stN n s) := by rw [stN_add]; rfl

theorem stN_zero (n : Nat) : stN n 0#32 = 0#32 := by
  induction n with
  | zero => rfl
  | succ n ih => rw [stN_succ, ih, st_zero]

theorem stN_xor (n : Nat) (a b : W32) : stN n (a ^^^ b) = stN n a ^^^ stN n b := by
  induction n generalizing a b with
  | zero => rfl
  | succ n ih => show stN n (st _) = stN n (st _) ^^^ stN n (st _); rw [st_xor, ih]

/-- The highest bit behind a step tells whether the polynomial was added. -/
theorem st_top (s : W32) : (st s).getLsbD 31 = s.getLsbD 0 := by
  unfold st
  cases h : s.getLsbD 0 <;> simp [poly]

theorem st_inj {a : W32} (h : st a = 0#32) : a = 0#32 := by
  have h0 : a.getLsbD 0 = false := by rw [← st_top, h]; simp
  unfold st at h
  rw [h0] at h
  simp only [Bool.false_eq_true, if_false, BitVec.xor_zero] at h
  apply BitVec.eq_of_getLsbD_eq
  intro i hi
  cases i with
  | zero => simpa using h0
  | succ i =>
    have := congrArg (fun v => BitVec.getLsbD v i) h
    simp only [BitVec.getLsbD_ushiftRight] at this
    rw [show i + 1 = 1 + i by omega, this]
    simp

theorem stN_inj {n : Nat} {a : W32} (h : stN n a = 0#32) : a = 0#32 := by
  induction n generalizing a with
  | zero => exact h
  | succ n ih => exact st_inj (ih h)

theorem xor_eq_zero {a b : W32} (h : a ^^^ b = 0#32) : a = b := by
  have : a ^^^ b ^^^ b = b := by rw [h]; simp
  simpa [BitVec.xor_assoc] using this

/-- Nothing is added where the bits below are none. -/
theorem st_shift {s : W32} (h : s.getLsbD 0 = false) : st s = s >>> 1 := by unfold st; rw [h]; simp

theorem stN_shift (n : Nat) (s : W32) (h : ∀ i, i < n → s.getLsbD i = false) : stN n s = s >>> n := by
  induction n generalizing s with
  | zero => simp [stN]
  | succ n ih =>
    show stN n (st s) = _
    rw [st_shift (h 0 (by omega)), ih _ (fun i hi => by rw [BitVec.getLsbD_ushiftRight]; exact h _ (by omega)), show n + 1 = 1 + n by omega, BitVec.shiftRight_add]

theorem stN_bit (k n : Nat) (h : k < 32) (hn : n ≤ k) : stN n (1#32 <<< k) = 1#32 <<< (k - n) := by
  rw [stN_shift]
  · apply BitVec.eq_of_getLsbD_eq
    intro i hi
    simp only [BitVec.getLsbD_ushiftRight, BitVec.getLsbD_shiftLeft, BitVec.getLsbD_one]
    by_cases h1 : n + i = k
    · simp [show ¬ i < k - n by omega, show ¬ n + i < k by omega, show n + i - k = 0 by omega, show i - (k - n) = 0 by omega]; omega
    · by_cases h2 : n + i < k
      · simp [show i < k - n by omega, h2]
      · simp [show ¬ i < k - n by omega, h2, show n + i - k ≠ 0 by omega, show i - (k - n) ≠ 0 by omega]
  · intro i hi
    simp [show i < k by omega]

theorem feed_xor (a b : W32) (c d : UInt8) : feed (a ^^^ b) (c ^^^ d) = feed a c ^^^ feed b d := by
  unfold feed
  rw [← stN_xor, UInt8.toNat_xor, BitVec.ofNat_xor]
  congr 1
  ac_rfl

theorem feed_zero : feed 0#32 0 = 0#32 := by decide +kernel

theorem run_nil (s : W32) : run s [] = s := rfl
theorem run_cons (s : W32) (c : UInt8) (bs : List UInt8) : run s (c :: bs) = run (feed s c) bs := rfl
theorem run_append (s : W32) (a b : List UInt8) : run s (a ++ b) = run (run s a) b := List.foldl_append

theorem run_xor (a b : W32) (l m : List UInt8) (h : l.length = m.length) : run (a ^^^ b) (List.zipWith (· ^^^ ·) l m) = run a l ^^^ run b m := by
  induction l generalizing a b m with
  | nil => cases m <;> simp_all [run]
  | cons x l ih =>
    cases m with
    | nil => simp at h
    | cons y m => simp only [List.zipWith_cons_cons, run_cons, feed_xor]; exact ih _ _ _ (by simpa using h)

theorem run_zeros (s : W32) (n : Nat) : run s (List.replicate n 0) = stN (8 * n) s := by
  induction n generalizing s with
  | zero => rfl
  | succ n ih =>
    rw [List.replicate_succ, run_cons, ih, show 8 * (n + 1) = 8 + 8 * n by omega, stN_add]
    congr 1
    simp [feed]

theorem run_split (s : W32) (bs : List UInt8) : run s bs = stN (8 * bs.length) s ^^^ run 0#32 bs := by
  have h := run_xor s 0#32 (List.replicate bs.length 0) bs (by simp)
  rw [run_zeros, BitVec.xor_zero] at h
  rw [← h]
  congr 1
  apply List.ext_getElem (by simp)
  intro i h1 h2
  simp

/-- The table's entry. -/
def tab (i : Nat) : W32 := stN 8 (BitVec.ofNat 32 i)

theorem feed_tab (s : W32) (c : UInt8) : feed s c = (s >>> 8) ^^^ tab (s.toNat % 256 ^^^ c.toNat) := by
  have h1 : s = ((s >>> 8) <<< 8) ^^^ BitVec.ofNat 32 (s.toNat % 256) := by
    apply BitVec.eq_of_getLsbD_eq
    intro i hi
    simp only [BitVec.getLsbD_xor, BitVec.getLsbD_shiftLeft, BitVec.getLsbD_ushiftRight, BitVec.getLsbD_ofNat, Nat.testBit_mod_two_pow (j := 8), show 256 = 2 ^ 8 by decide]
    by_cases h : i < 8
    · simp [h, hi, BitVec.getLsbD]
    · simp [h, hi, show 8 + (i - 8) = i by omega]
  have h2 : stN 8 ((s >>> 8) <<< 8) = s >>> 8 := by
    rw [stN_shift _ _ (fun i hi => by simp [hi])]
    apply BitVec.eq_of_getLsbD_eq
    intro i hi
    simp only [BitVec.getLsbD_shiftLeft, BitVec.getLsbD_ushiftRight]
    by_cases h : i < 24
    · simp [show 8 + i < 32 by omega]
    · simp [show ¬ 8 + i < 32 by omega]
      exact BitVec.getLsbD_of_ge _ _ (by omega)
  unfold feed tab
  rw [BitVec.ofNat_xor, stN_xor, stN_xor, ← BitVec.xor_assoc]
  congr 1
  conv => lhs; rw [h1]
  rw [stN_xor, h2]

theorem tab_xor (a b : Nat) : tab (a ^^^ b) = tab a ^^^ tab b := by
  unfold tab
  rw [BitVec.ofNat_xor, stN_xor]

end Go.Proofs.Ytdpkhhmmoiianaa
