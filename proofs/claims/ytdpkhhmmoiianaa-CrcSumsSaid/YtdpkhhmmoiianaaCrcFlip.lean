/-
  Plain facts on sums of bytes of which bits are turned. No program text here.
-/
import Derived.Test.YtdpkhhmmoiianaaCrcPlain
namespace Go.Proofs.Ytdpkhhmmoiianaa

/-- The bit k, in its byte. -/
def bitOf (k : Nat) : UInt8 := UInt8.ofNat (2 ^ (k % 8))
/-- Bit k turned, counted from each byte's lowest one. -/
def flip (bs : List UInt8) (k : Nat) : List UInt8 := bs.set (k / 8) (bs.getD (k / 8) 0 ^^^ bitOf k)

@[simp] theorem flip_length (bs : List UInt8) (k : Nat) : (flip bs k).length = bs.length := by simp [flip]

def unit (n k : Nat) : List UInt8 := (List.replicate n 0).set (k / 8) (bitOf k)

theorem flip_zip (bs : List UInt8) (k : Nat) : flip bs k = List.zipWith (· ^^^ ·) bs (unit bs.length k) := by
  apply List.ext_getElem?
  intro j
  unfold flip unit
  simp only [List.getElem?_zipWith, List.getElem?_set, List.length_replicate, List.getElem?_replicate]
  by_cases hj : j < bs.length
  · have e : bs[j]? = some bs[j] := List.getElem?_eq_getElem hj
    by_cases hk : k / 8 = j
    · subst hk
      simp [hj, List.getD_eq_getElem?_getD, e]
    · simp [hk, hj, e]
  · simp [hj]
    omega

theorem stN_back (m : Nat) (h : m < 32) : stN m (1#32 <<< m) = 1#32 := by
  rw [stN_bit m m h (Nat.le_refl _)]; simp

theorem bit_toNat (k : Nat) : (bitOf k).toNat = 2 ^ (k % 8) := by
  unfold bitOf
  have h : k % 8 < 8 := Nat.mod_lt _ (by omega)
  have : 2 ^ (k % 8) ≤ 2 ^ 7 := Nat.pow_le_pow_right (by omega) (by omega)
  simp
  omega

theorem bit_w32 (k : Nat) : BitVec.ofNat 32 (bitOf k).toNat = 1#32 <<< (k % 8) := by
  rw [bit_toNat]
  have h : k % 8 < 8 := Nat.mod_lt _ (by omega)
  generalize k % 8 = m at h
  have hc : m = 0 ∨ m = 1 ∨ m = 2 ∨ m = 3 ∨ m = 4 ∨ m = 5 ∨ m = 6 ∨ m = 7 := by omega
  rcases hc with rfl | rfl | rfl | rfl | rfl | rfl | rfl | rfl <;> decide

theorem unit_split (n k : Nat) (h : k / 8 < n) : unit n k = List.replicate (k / 8) 0 ++ bitOf k :: List.replicate (n - 1 - k / 8) 0 := by
  unfold unit
  apply List.ext_getElem (by simp; omega)
  intro j h1 h2
  rw [List.getElem_set, List.getElem_append]
  simp only [List.length_replicate, List.getElem_replicate]
  by_cases h3 : j < k / 8
  · rw [if_neg (by omega), dif_pos h3]
  · rw [dif_neg h3]
    by_cases h4 : k / 8 = j
    · subst h4; simp
    · rw [if_neg h4, List.getElem_cons]
      simp [show j - k / 8 ≠ 0 by omega]

theorem run_unit (n k : Nat) (h : k < 8 * n) : run 0#32 (unit n k) = stN (8 * n - k) 1#32 := by
  have hj : k / 8 < n := by omega
  rw [unit_split n k hj, run_append, run_zeros, stN_zero, run_cons, run_zeros]
  unfold feed
  rw [BitVec.zero_xor, bit_w32, show 8 = k % 8 + (8 - k % 8) by omega, stN_add, ← show 8 = k % 8 + (8 - k % 8) by omega, stN_back _ (by omega), ← stN_add]
  congr 1
  omega

theorem run_flip (s : W32) (bs : List UInt8) (k : Nat) (h : k < 8 * bs.length) : run s (flip bs k) = run s bs ^^^ stN (8 * bs.length - k) 1#32 := by
  rw [flip_zip]
  have := run_xor s 0#32 bs (unit bs.length k) (by simp [unit])
  rw [BitVec.xor_zero] at this
  rw [this, run_unit _ _ h]

/-- The walk of x's powers does not come back within n of them. -/
def away : Nat → W32 → Bool
  | 0, _ => true
  | n + 1, s => (s != 1#32) && away n (st s)
theorem away_spec : ∀ (n : Nat) (s : W32), away n s = true → ∀ d, d < n → stN d s ≠ 1#32
  | 0, _, _, d, h => by omega
  | n + 1, s, ha, d, h => by
    simp only [away, Bool.and_eq_true, bne_iff_ne] at ha
    cases d with
    | zero => exact ha.1
    | succ d => exact away_spec n (st s) ha.2 d (by omega)
theorem away_far : away 2400 (st 1#32) = true := by decide +kernel

theorem stN_ne {p q : Nat} (h : p < q) (hq : q ≤ 2400) : stN p 1#32 ≠ stN q 1#32 := by
  intro e
  have h1 : stN p (1#32 ^^^ stN (q - p) 1#32) = 0#32 := by
    rw [stN_xor, ← stN_add, show q - p + p = q by omega, e]; simp
  have h2 := xor_eq_zero (stN_inj h1)
  have h3 := away_spec 2400 (st 1#32) away_far (q - p - 1) (by omega)
  apply h3
  have : stN (q - p - 1) (st 1#32) = stN (q - p - 1 + 1) 1#32 := rfl
  rw [this, show q - p - 1 + 1 = q - p by omega, ← h2]
theorem stN_ne' {p q : Nat} (h : p ≠ q) (hp : p ≤ 2400) (hq : q ≤ 2400) : stN p 1#32 ≠ stN q 1#32 := by
  rcases Nat.lt_or_ge p q with h1 | h1
  · exact stN_ne h1 hq
  · exact fun e => stN_ne (show q < p by omega) hp e.symm
theorem stN_one_ne (n : Nat) : stN n 1#32 ≠ 0#32 := fun e => by have := stN_inj e; exact absurd this (by decide)

theorem xor_ne {a b : W32} (h : b ≠ 0#32) : a ^^^ b ≠ a := by
  intro e
  apply h
  have : a ^^^ b ^^^ a = 0#32 := by rw [e]; simp
  rw [BitVec.xor_comm, ← BitVec.xor_assoc] at this
  simpa using this
theorem xor_left_inj {a b c : W32} (h : a ^^^ b = a ^^^ c) : b = c := by
  have : a ^^^ (a ^^^ b) = a ^^^ (a ^^^ c) := by rw [h]
  simpa [← BitVec.xor_assoc] using this

/-- One bit, or two: another one. -/
theorem two_told (s : W32) (bs : List UInt8) (i k : Nat) (hl : bs.length ≤ 300) (hi : i < 8 * bs.length) (hk : k < 8 * bs.length) (hik : i ≠ k) :
    run s (flip bs i) ≠ run s bs ∧ run s (flip (flip bs i) k) ≠ run s bs ∧ run s (flip (flip bs i) k) ≠ run s (flip bs i) := by
  rw [run_flip s (flip bs i) k (by simpa using hk), run_flip s bs i hi, flip_length]
  refine ⟨xor_ne (stN_one_ne _), ?_, xor_ne (stN_one_ne _)⟩
  rw [BitVec.xor_assoc]
  apply xor_ne
  intro e
  exact stN_ne' (show 8 * bs.length - i ≠ 8 * bs.length - k by omega) (by omega) (by omega) (xor_eq_zero e)

end Go.Proofs.Ytdpkhhmmoiianaa
