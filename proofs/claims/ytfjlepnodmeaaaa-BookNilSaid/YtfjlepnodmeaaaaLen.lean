/-
  Contracts of math/bits.Len64 and math/bits.Len below 2^32. No other condition.
-/
import Derived.Test.YtfjlepnodmeaaaaBits3
import Derived.Test.YtfjlepnodmeaaaaBookPlain
import Derived.Laws.BitsAllLaws
namespace Go.Proofs.Ytfjlepnodmeaaaa
open Go.RowKit

theorem bitLen_div (x k : Nat) (h : 1 ≤ x / 2 ^ k) : bitLen x = bitLen (x / 2 ^ k) + k := by
  have hp : 0 < 2 ^ k := Nat.two_pow_pos k
  have hx : x ≠ 0 := by intro h0; subst h0; simp at h
  have h1 := Nat.log2_self_le (show x / 2 ^ k ≠ 0 by omega)
  have h2 : x / 2 ^ k < 2 ^ ((x / 2 ^ k).log2 + 1) := Nat.lt_log2_self
  have h3 : x.log2 = (x / 2 ^ k).log2 + k := (Nat.log2_eq_iff hx).2 ⟨by rw [Nat.pow_add]; exact (Nat.le_div_iff_mul_le hp).1 h1, by rw [show (x / 2 ^ k).log2 + k + 1 = ((x / 2 ^ k).log2 + 1) + k by omega, Nat.pow_add]; exact (Nat.div_lt_iff_lt_mul hp).1 h2⟩
  unfold bitLen
  rw [if_neg hx, if_neg (by omega), h3]
  omega

set_option maxHeartbeats 4000000 in
set_option maxRecDepth 100000 in
theorem mlen64_any (x : Nat) (w : World) (h1 : x < 4294967296) :
    Calls Try.prog 55 #[.int .u64 (x : Int)] w fun e w' => e = .returned (.int .i64 (bitLen x : Int)) ∧ w' = w := by
  go_enter Try.func55, Try.ntmps55
  generalize hX : ByteArray.mk (List.toArray (List.append (List.append _ _) (List.append _ _))) = s
  have hidx : ∀ (z : Int) (k : Nat), z = ((x / 2 ^ k : Nat) : Int) → (k = 0 ∨ 1 ≤ x / 2 ^ k) → x / 2 ^ k < 256 → ∃ n : Nat, n ≤ 8 ∧ Hid (k + n = bitLen x) ∧ (Instr.index 9 (.string s) (.int .u8 z)).run Try.prog w = .ok (.int .u8 (n : Int)) w := by
    intro z k hz b0 b1
    have hsz : s.size = 256 := by subst hX; decide +kernel
    have all : ∀ n : Fin 256, (s[n.val]?).map UInt8.toNat = some (bitLen n.val) ∧ bitLen n.val ≤ 8 := by subst hX; decide +kernel
    have d : bitLen x = bitLen (x / 2 ^ k) + k := by
      rcases b0 with b0 | b0
      · subst b0; simp
      · exact bitLen_div x k b0
    generalize x / 2 ^ k = b at *
    subst hz
    obtain ⟨hb, hl⟩ := all ⟨b, b1⟩
    simp only at hl d
    refine ⟨bitLen b, hl, Lib.hid (by omega), ?_⟩
    rw [run_index_string w 9 s .u8 b Try.underlying9, dif_pos ⟨by omega, by rw [hsz]; omega⟩]
    simp only [Int.toNat_natCast] at hb ⊢
    rw [getElem?_pos s b (by rw [hsz]; exact b1)] at hb
    simp only [Option.map_some, Option.some.injEq] at hb
    rw [hb]
  clear hX
  have e0 : decide ((4294967296 : Int) ≤ (x : Int)) = false := by simp; omega
  obtain ⟨L, hL⟩ : ∃ L, L = bitLen x := ⟨_, rfl⟩
  rw [← hL] at hidx ⊢
  clear hL
  by_cases ha : 65536 ≤ x
  · have e1 : decide ((65536 : Int) ≤ (x : Int)) = true := by simp; omega
    by_cases hb : 16777216 ≤ x
    · have e2 : decide ((256 : Int) ≤ (x : Int) / 65536) = true := by simp; omega
      obtain ⟨n, hn, HN, hi⟩ := hidx ((x : Int) / 65536 / 256 % 256) 24 (by omega) (by omega) (by omega)
      clear hidx h1 ha hb
      go_wp2_with fail
      go_ret
      exact ⟨by have := HN.out; show Ending.returned (.int .i64 (24 + (n : Int))) = _; congr 2; omega, rfl⟩
    · have e2 : decide ((256 : Int) ≤ (x : Int) / 65536) = false := by simp; omega
      obtain ⟨n, hn, HN, hi⟩ := hidx ((x : Int) / 65536 % 256) 16 (by omega) (by omega) (by omega)
      clear hidx h1 ha hb
      go_wp2_with fail
      go_ret
      exact ⟨by have := HN.out; show Ending.returned (.int .i64 (16 + (n : Int))) = _; congr 2; omega, rfl⟩
  · have e1 : decide ((65536 : Int) ≤ (x : Int)) = false := by simp; omega
    by_cases hb : 256 ≤ x
    · have e2 : decide ((256 : Int) ≤ (x : Int)) = true := by simp; omega
      obtain ⟨n, hn, HN, hi⟩ := hidx ((x : Int) / 256 % 256) 8 (by omega) (by omega) (by omega)
      clear hidx h1 ha hb
      go_wp2_with fail
      go_ret
      exact ⟨by have := HN.out; show Ending.returned (.int .i64 (8 + (n : Int))) = _; congr 2; omega, rfl⟩
    · have e2 : decide ((256 : Int) ≤ (x : Int)) = false := by simp; omega
      obtain ⟨n, hn, HN, hi⟩ := hidx ((x : Int) % 256) 0 (by omega) (by omega) (by omega)
      clear hidx h1 ha hb
      go_wp2_with fail
      go_ret
      exact ⟨by have := HN.out; show Ending.returned (.int .i64 (n : Int)) = _; congr 2; omega, rfl⟩

theorem mlen_any (x : Nat) (w : World) (h1 : x < 4294967296) :
    Calls Try.prog 39 #[.int .u64 (x : Int)] w fun e w' => e = .returned (.int .i64 (bitLen x : Int)) ∧ w' = w := by
  have HL := Lib.hid (mlen64_any x w h1)
  obtain ⟨L, hL⟩ : ∃ L, L = bitLen x := ⟨_, rfl⟩
  rw [← hL] at HL ⊢
  clear hL
  go_enter Try.func39, Try.ntmps39
  go_wp2_with fail
  refine HL.out.mono ?_
  rintro e w' ⟨rfl, rfl⟩
  go_wp2_with fail
  go_ret
  exact ⟨rfl, rfl⟩
end Go.Proofs.Ytfjlepnodmeaaaa
