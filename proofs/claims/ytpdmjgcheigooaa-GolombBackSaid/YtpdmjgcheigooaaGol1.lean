/-
  Contracts of package golomb's functions of numbers alone (Len, Fold, Unfold, codeWidth), and of math/bits.Len64 below 2^32; conditions: the numbers lie in their types' ranges.
-/
import Derived.Test.YtpdmjgcheigooaaBits8
import Derived.Test.YtpdmjgcheigooaaGolPlain
namespace Go.Proofs.Ytpdmjgcheigooaa
open Go.RowKit

theorem log2_div (x k : Nat) (h : 1 ≤ x / 2 ^ k) : x.log2 = (x / 2 ^ k).log2 + k := by
  have hp : 0 < 2 ^ k := Nat.two_pow_pos k
  have hx : x ≠ 0 := by intro h0; subst h0; simp at h
  have h1 := Nat.log2_self_le (show x / 2 ^ k ≠ 0 by omega)
  have h2 : x / 2 ^ k < 2 ^ ((x / 2 ^ k).log2 + 1) := Nat.lt_log2_self
  exact (Nat.log2_eq_iff hx).2 ⟨by rw [Nat.pow_add]; exact (Nat.le_div_iff_mul_le hp).1 h1, by rw [show (x / 2 ^ k).log2 + k + 1 = ((x / 2 ^ k).log2 + 1) + k by omega, Nat.pow_add]; exact (Nat.div_lt_iff_lt_mul hp).1 h2⟩

set_option maxHeartbeats 4000000 in
set_option maxRecDepth 100000 in
theorem len64_any (x : Nat) (w : World) (h0 : 1 ≤ x) (h1 : x < 4294967296) :
    Calls Try.prog 33 #[.int .u64 (x : Int)] w fun e w' => e = .returned (.int .i64 ((x.log2 + 1 : Nat) : Int)) ∧ w' = w := by
  go_enter Try.func33, Try.ntmps33
  generalize hX : ByteArray.mk (List.toArray (List.append (List.append _ _) (List.append _ _))) = s
  have hidx : ∀ (z : Int) (k : Nat), z = ((x / 2 ^ k : Nat) : Int) → 1 ≤ x / 2 ^ k → x / 2 ^ k < 256 → ∃ n : Nat, n ≤ 8 ∧ Hid (k + n = x.log2 + 1) ∧ (Instr.index 9 (.string s) (.int .u8 z)).run Try.prog w = .ok (.int .u8 (n : Int)) w := by
    intro z k hz b0 b1
    have hsz : s.size = 256 := by subst hX; decide +kernel
    have all : ∀ n : Fin 256, 1 ≤ n.val → (s[n.val]?).map UInt8.toNat = some (n.val.log2 + 1) ∧ n.val.log2 + 1 ≤ 8 := by subst hX; decide +kernel
    have d := log2_div x k b0
    generalize x / 2 ^ k = b at *
    subst hz
    obtain ⟨hb, hl⟩ := all ⟨b, b1⟩ b0
    simp only at hl d
    refine ⟨b.log2 + 1, hl, Lib.hid (by omega), ?_⟩
    rw [run_index_string w 9 s .u8 b Try.underlying9, dif_pos ⟨by omega, by rw [hsz]; omega⟩]
    simp only [Int.toNat_natCast] at hb ⊢
    rw [getElem?_pos s b (by rw [hsz]; exact b1)] at hb
    simp only [Option.map_some, Option.some.injEq] at hb
    rw [hb]
  clear hX
  have e0 : decide ((4294967296 : Int) ≤ (x : Int)) = false := by simp; omega
  by_cases ha : 65536 ≤ x
  · have e1 : decide ((65536 : Int) ≤ (x : Int)) = true := by simp; omega
    by_cases hb : 16777216 ≤ x
    · have e2 : decide ((256 : Int) ≤ (x : Int) / 65536) = true := by simp; omega
      obtain ⟨n, hn, HN, hi⟩ := hidx ((x : Int) / 65536 / 256 % 256) 24 (by omega) (by omega) (by omega)
      clear hidx h0 h1 ha hb
      go_wp2_with fail
      go_ret
      exact ⟨by have := HN.out; show Ending.returned (.int .i64 (24 + (n : Int))) = _; congr 2; omega, rfl⟩
    · have e2 : decide ((256 : Int) ≤ (x : Int) / 65536) = false := by simp; omega
      obtain ⟨n, hn, HN, hi⟩ := hidx ((x : Int) / 65536 % 256) 16 (by omega) (by omega) (by omega)
      clear hidx h0 h1 ha hb
      go_wp2_with fail
      go_ret
      exact ⟨by have := HN.out; show Ending.returned (.int .i64 (16 + (n : Int))) = _; congr 2; omega, rfl⟩
  · have e1 : decide ((65536 : Int) ≤ (x : Int)) = false := by simp; omega
    by_cases hb : 256 ≤ x
    · have e2 : decide ((256 : Int) ≤ (x : Int)) = true := by simp; omega
      obtain ⟨n, hn, HN, hi⟩ := hidx ((x : Int) / 256 % 256) 8 (by omega) (by omega) (by omega)
      clear hidx h0 h1 ha hb
      go_wp2_with fail
      go_ret
      exact ⟨by have := HN.out; show Ending.returned (.int .i64 (8 + (n : Int))) = _; congr 2; omega, rfl⟩
    · have e2 : decide ((256 : Int) ≤ (x : Int)) = false := by simp; omega
      obtain ⟨n, hn, HN, hi⟩ := hidx ((x : Int) % 256) 0 (by omega) (by omega) (by omega)
      clear hidx h0 h1 ha hb
      go_wp2_with fail
      go_ret
      exact ⟨by have := HN.out; show Ending.returned (.int .i64 (n : Int)) = _; congr 2; omega, rfl⟩

theorem codeWidth_any (n : Nat) (w : World) (hn : n ≤ 1000000) :
    Calls Try.prog 32 #[.int .i64 (n : Int)] w fun e w' => e = .returned (.int .i64 ((2 * n + 1 : Nat) : Int)) ∧ w' = w := by
  go_enter Try.func32, Try.ntmps32
  go_wp2
  go_ret
  exact ⟨by go_num, rfl⟩

theorem glen_big (v : Nat) (w : World) (h : 4294967294 < v) :
    Calls Try.prog 13 #[.int .u64 (v : Int)] w fun e w' => e = .returned (.int .i64 0) ∧ w' = w := by
  go_enter Try.func13, Try.ntmps13
  go_wp2_with fail
  go_ret
  exact ⟨rfl, rfl⟩

theorem glen_any (v : Nat) (w : World) (h : v ≤ 4294967294) :
    Calls Try.prog 13 #[.int .u64 (v : Int)] w fun e w' => e = .returned (.int .i64 (clen v : Int)) ∧ w' = w := by
  have hl := log2_small h
  have HC := Lib.hid (len64_any (v + 1) w (by omega) (by omega))
  have HD := Lib.hid (codeWidth_any (v + 1).log2 w (by omega))
  obtain ⟨n, hn⟩ : ∃ n, n = (v + 1).log2 := ⟨_, rfl⟩
  rw [← hn] at hl HC HD
  have Hn := Lib.hid hn; clear hn
  go_enter Try.func13, Try.ntmps13
  go_wp2_with fail
  refine HC.out.mono ?_
  rintro e w' ⟨rfl, rfl⟩
  go_wp2_with fail
  refine HD.out.mono ?_
  rintro e w' ⟨rfl, rfl⟩
  go_wp2_with fail
  go_ret
  exact ⟨by rw [Hn.out]; rfl, rfl⟩

theorem gfold_out (x : Int) (w : World) (h : ¬ folds x) :
    Calls Try.prog 10 #[.int .i64 x] w fun e w' => e = .returned (.tuple #[.int .u64 0, .bool false]) ∧ w' = w := by
  unfold folds at h
  by_cases h1 : x < -2147483647
  · go_enter Try.func10, Try.ntmps10
    go_wp2_with fail
    go_ret2
    exact ⟨rfl, rfl⟩
  · have h2 : 2147483647 < x := by omega
    go_enter Try.func10, Try.ntmps10
    go_wp2_with fail
    go_ret2
    exact ⟨rfl, rfl⟩

theorem gfold_in (x : Int) (w : World) (h : folds x) :
    Calls Try.prog 10 #[.int .i64 x] w fun e w' => e = .returned (.tuple #[.int .u64 (folded x : Int), .bool true]) ∧ w' = w := by
  have hf := folded_le h
  have h0 := h
  unfold folds at h
  have HX := Lib.hid h; clear h0
  obtain ⟨l0, l1⟩ := h
  obtain ⟨y, hy⟩ : ∃ y, y = folded x := ⟨_, rfl⟩
  rw [← hy] at hf ⊢
  unfold folded at hy
  by_cases h1 : 0 < x
  · have e1 : (-x) / 9223372036854775808 = -1 := by omega
    rw [if_pos h1] at hy
    have e2 : bits .xor .i64 (-x * 2) (-1) = (y : Int) := by rw [i64_xor_ones _ (by omega) (by omega)]; omega
    clear hy
    go_enter Try.func10, Try.ntmps10
    go_wp2_with fail
    go_ret2
    exact ⟨rfl, rfl⟩
  · have e1 : (-x) / 9223372036854775808 = 0 := by omega
    rw [if_neg h1] at hy
    have e2 : bits .xor .i64 (-x * 2) 0 = (y : Int) := by rw [i64_xor_none _ (by omega) (by omega)]; omega
    clear hy
    go_enter Try.func10, Try.ntmps10
    go_wp2_with fail
    go_ret2
    exact ⟨rfl, rfl⟩

theorem gunfold_big (v : Nat) (w : World) (h : 4294967294 < v) :
    Calls Try.prog 14 #[.int .u64 (v : Int)] w fun e w' => e = .returned (.int .i64 0) ∧ w' = w := by
  go_enter Try.func14, Try.ntmps14
  go_wp2_with fail
  go_ret
  exact ⟨rfl, rfl⟩

theorem gunfold_any (v : Nat) (w : World) (h : v ≤ 4294967294) :
    Calls Try.prog 14 #[.int .u64 (v : Int)] w fun e w' => e = .returned (.int .i64 (unfolded v)) ∧ w' = w := by
  have ea := u64_and_one v (by omega)
  obtain ⟨y, hy⟩ : ∃ y, y = unfolded v := ⟨_, rfl⟩
  rw [← hy]
  unfold unfolded at hy
  rw [if_neg (by omega)] at hy
  by_cases h1 : v % 2 = 1
  · rw [h1] at ea
    rw [if_pos h1] at hy
    have e2 : bits .xor .i64 ((v : Int) / 2) (-1) = -y := by rw [i64_xor_ones _ (by omega) (by omega)]; omega
    have y0 : -4294967296 ≤ y := by omega
    have y1 : y ≤ 4294967296 := by omega
    have Hy := Lib.hid hy; clear hy
    go_enter Try.func14, Try.ntmps14
    go_wp2_with fail
    go_ret
    exact ⟨by have := Hy.out; go_num, rfl⟩
  · rw [show v % 2 = 0 by omega] at ea
    rw [if_neg h1] at hy
    have e2 : bits .xor .i64 ((v : Int) / 2) 0 = -y := by rw [i64_xor_none _ (by omega) (by omega)]; omega
    have y0 : -4294967296 ≤ y := by omega
    have y1 : y ≤ 4294967296 := by omega
    have Hy := Lib.hid hy; clear hy
    go_enter Try.func14, Try.ntmps14
    go_wp2_with fail
    go_ret
    exact ⟨by have := Hy.out; go_num, rfl⟩
end Go.Proofs.Ytpdmjgcheigooaa
